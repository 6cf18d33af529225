import PyProof.Rows.All
import Wide.All
import OpenK.AllK
import Wide.FinOn
import HandS.ForMost
import HandS.IsInst
import HandS.TupAny
import HandS.TupMul
import HandS.Wide
import PyProof.ReprRoads
import KE.GoesEnum
import PyProof.EqKinds
import HandS.FStrTup
import PyProof.FitsInt
import HandS.Walk
import PyProof.NeKinds
import HandS.ListItems
import KE.KItemsList
import PyProof.ZipIter
import KE.KDictPairs
import HandS.Style
import HandS.Sort
import HandS.SortRule
import HandS.Deep
import HandS.SortInts
import HandS.More
import HandS.DictComp
import HandS.Dict
import PyProof.Rows.SortKeyStr
import PyProof.P3In
import KE.KDictZip
import HandS.DictTup
import HandS.Conv
import HandS.Small
import KE.SortData
import KE.DatumOrd
import HandS.Iter
import KE.KDictList
import HandS.Comp
import HandS.Exc
import HandS.ExcIs
import HandS.ExcOwn
import HandS.WordsExc
import KE.SortCalls
import PyProof.EqAt
import HandS.ExcInit
import HandS.ExcField
import KE.KExcIs
import HandS.Flow
import HandS.WordsDict
import HandS.DeepEq
import HandS.Words
import HandS.SetFor
import HandS.Zip
import PySem.Challenge.RW_heldapart_k28_faults_and_limits
set_option Elab.async false
set_option linter.all false
set_option maxRecDepth 100000
set_option maxHeartbeats 4000000
/-! Calls that carry the word «no repr is under way», so that repr of data is known. -/
namespace L2.Hx
open PySem PySem.Spec PyProof.Rows

/-- FnOk, for callers around whom no guard stands -/
structure FnG (P : Program) (w : World) (K : PySem.W.Frag) (mg : Str → Option Value) (base : Heap) (CX : CXT) (k : Nat) (f : Addr) (fd : FuncData) (ps : List Str) (sp : Sp) : Prop where
  ln : ∀ vs H Q E, sp vs H Q E → vs.length = ps.length
  go : ∀ (A : Around) (outer : List Env) (s : Shared) (H : Hp) (args : Args) (us : List Value) (vs : List V) (Q : VK) (E : XK), A.guards = some [] → Room k A → Env0 P w K mg base A outer s H →
    BindsTo s fd args (ps.zip us) → Vals vs us → sp vs H Q E → codeAny (model P w) A (.call (.ref f) args) (CR CX outer P w H s Q E) s

section
variable {P : Program} {w : World} {K : PySem.W.Frag} {mg : Str → Option Value} {base : Heap} {CX : CXT} {f : Addr} {fd : FuncData} {ps : List Str} {sp : Sp} {k : Nat}
theorem FnG.ofOk (F : FnOk P w K mg base CX k f fd ps sp) : FnG P w K mg base CX k f fd ps sp :=
  ⟨F.len, fun A outer s H args us vs Q E _ hr e b r h => F.run A outer s H args us vs Q E hr e b r h⟩
theorem FnG.mono {j : Nat} (F : FnG P w K mg base CX j f fd ps sp) (h : j ≤ k) : FnG P w K mg base CX k f fd ps sp :=
  ⟨F.ln, fun A outer s H args us vs Q E hg hr => F.go A outer s H args us vs Q E hg (hr.mono h)⟩
theorem FnG.imp {sp' : Sp} (F : FnG P w K mg base CX k f fd ps sp) (h : ∀ vs H Q E, sp' vs H Q E → sp vs H Q E) : FnG P w K mg base CX k f fd ps sp' :=
  ⟨fun vs H Q E q => F.ln vs H Q E (h _ _ _ _ q), fun A outer s H args us vs Q E hg hr e b r q => F.go A outer s H args us vs Q E hg hr e b r (h _ _ _ _ q)⟩
/-- a def by its body -/
theorem fng_of {name qual : Str} {params : Arguments} {body : List Stmt} {scope : Scope} {dV kV doc pm cdv ct oc : Value} {an od : Option Addr} {osl : Array (Option Value)} {N : List Str}
    (lk : K.lookup f = some ⟨oc, od, .func (PySem.W.fnOf name qual params body scope dV kV doc pm an cdv ct), osl⟩) (hcd : PySem.W.codeIn K cdv qual = true) (S : FnScope N ps scope)
    (hn : ∀ vs H Q E, sp vs H Q E → vs.length = ps.length)
    (hbody : ∀ (A : Around) (outer : List Env) (s : Shared) (H : Hp) (vs : List V) (Q : VK) (E : XK), A.guards = some [] → Room k (A.deeper (envOfC qual scope s.heap.objs.size f cdv)) → sp vs H Q E →
      ∃ t, PSs (cxOf CX P w K mg base N qual scope f cdv A outer s H E) body t ∧ t { nx := fun _ H' => Q .non H', rt := Q } (start N vs) H) :
    FnG P w K mg base CX (k + 1) f (PySem.W.fnOf name qual params body scope dV kV doc pm an cdv ct) ps sp := by
  refine ⟨hn, fun A outer s H args us vs Q E hgd hr en hbd rv hsp => ?_⟩
  have hlen := hn _ _ _ _ hsp
  have kin : K.In s.heap := en.mod.kin.keeps fun b o q => (en.bs b o q).1
  have nol : s.heap.NoLimit := en.mod.nolimit.keeps fun b o q => (en.bs b o q).1
  have kinds : ∀ y ∈ ps.zip us, scope.names.lookup y.1 = some .local ∨ (scope.names.lookup y.1 = some .cell ∧ ((cellsFrom (s.heap.objs.size + 1) scope.names []).lookup y.1).isSome = true) := fun ⟨n, v⟩ hy =>
    (S.par n (List.of_mem_zip hy).1).elim (fun z => .inl z) fun z => .inr ⟨z, PySem.W.cellsFrom_some _ _ _ (.inl z)⟩
  refine codeAny_call_function hr.depth (kin _ _ lk) rfl S.co S.gen rfl (PySem.W.codeRec_of kin hcd) (hbd _ _ _ _ ?_)
  refine wpAny_newFunctionEnv_cells S.kind kinds fun env he s1 x => ?_
  subst he
  refine ⟨nol.keeps x.toInCall.keep, codeAny_func ?_⟩
  obtain ⟨t, ht, hq⟩ := hbody A outer s H vs Q E hgd (hr.deeper _) hsp
  have J0 := inv_start (CX := CX) (P := P) (w := w) (K := K) (mg := mg) (base := base) (E := E) S hr.hd en hlen rv x
  refine wpAny_mono (ht.run [] s1 (start N vs) H _ J0 hq) (fun fl s2 hs => ?_) fun e s2 hs => hs
  cases fl with
  | ret u => obtain ⟨v, σ', H', J, r, q⟩ := hs; exact ⟨v, H', J.os, J.bare, J.base, J.hok, r, q⟩
  | next => obtain ⟨σ', H', J, q⟩ := hs; exact ⟨V.non, H', J.os, J.bare, J.base, J.hok, rfl, q⟩
  | brk => obtain ⟨_, _, _, q⟩ := hs; exact q.elim
  | cont => obtain ⟨_, _, _, q⟩ := hs; exact q.elim
/-- a def of the text that lets nothing out -/
theorem okG {x qual : Str} {st : Stmt} {N : List Str} (F : Fun K x qual st f fd) (S : FnScope N ps (defScope st)) (hn : ∀ vs H Q E, sp vs H Q E → vs.length = ps.length)
    (hbody : ∀ (cdv : Value) (A : Around) (outer : List Env) (s : Shared) (H : Hp) (vs : List V) (Q : VK) (E : XK), (A.deeper (envOfC qual (defScope st) s.heap.objs.size f cdv)).guards = some [] → Room k (A.deeper (envOfC qual (defScope st) s.heap.objs.size f cdv)) → sp vs H Q E →
      ∃ t, PSs (cxOf CX0 P w K mg base N qual (defScope st) f cdv A outer s H E).nox (defBody st) t ∧ t { nx := fun _ H' => Q .non H', rt := Q } (start N vs) H) :
    FnG P w K mg base CX0 (k + 1) f fd ps sp := by
  obtain ⟨oc, od, kV, doc, pm, an, cdv, ct, osl, rfl, lk, hcd⟩ := F.ex
  refine fng_of lk hcd S hn fun A outer s H vs Q E hgd hr hsp => ?_
  obtain ⟨t, h, q⟩ := hbody cdv A outer s H vs Q E hgd hr hsp
  exact ⟨t, h.nox, q⟩
end

section
variable {X : Cx} {CX : CXT} {k : Nat} {f : Addr} {fd : FuncData} {ps ks : List Str} {sp : Sp} {dvs : List V} {ds : List Value} {E : XK} {x : Str} {p pos : Pos} {e : Expr} {es : List Expr} {kws : List Keyword} {t tk : TA}
/-- the callee runs -/
theorem run_g {pins : List (Addr × Obj)} {σ : St} {H : Hp} {s : Shared} {Q : VK} {us : List Value} {vs : List V} (F : FnG X.prog X.w X.K X.mg X.base CX k f fd ps sp) (hgd : X.A.guards = some []) (hr : Room k X.A) (hb : Binds X.K fd ps ds) (hd : Vals dvs ds) (hx : Passes CX X E)
    (I : Inv X pins σ H s) (r : Vals vs us) (h : sp (vs ++ dvs) H Q E) : wpAny (model X.prog X.w) X.A (call (.ref f) us) (EP X pins σ Q) X.xe s := by
  have rd : Vals (vs ++ dvs) (us ++ ds) := r.append hd
  have hlen : (us ++ ds).length = ps.length := rd.length.symm.trans (F.ln _ _ _ _ h)
  refine wpAny_call (codeAny_mono (F.go X.A X.stack s H ⟨us, []⟩ (us ++ ds) (vs ++ dvs) Q E hgd hr I.env0 (hb s us I.kIn hlen) rd h) fun z s2 hq => ?_)
  cases z with
  | error er => exact hx pins σ H s er s2 I hq
  | ok fl =>
    cases fl with
    | ret u => exact I.after hq
    | next => exact hq.elim
    | brk => exact hq.elim
    | cont => exact hq.elim
theorem pe_g (F : FnG X.prog X.w X.K X.mg X.base CX k f fd ps sp) (hgd : X.A.guards = some []) (hr : Room k X.A) (hg : Gl X x) (hm : X.mg x = some (.ref f)) (hk : PySem.W.keepIn X.K (.ref f) = true) (hb : Binds X.K fd ps ds) (hd : Vals dvs ds) (hx : Passes CX X E)
    (ha : PA X (e :: es) t) (hdb : (x == ("__debug__" : Str)) = false := by decide) (he : starEach (e :: es) X.env = (false, eval e X.env) :: starEach es X.env := by rfl) (hpl : (backTo pos (starEach es X.env)).any (·.1) = false := by rfl) :
    PE X (.Call (.Name x p) (e :: es) [] pos) (tCall sp dvs E t) := ⟨fun pins s σ H Q I h =>
  wpAny_Call_Name_kw (ld_glob I hg hm (PySem.W.callWith_K (h₀ := X.base) I.ok.mod.kin hk (thn (ha.run pos pins s σ H _ I h) fun us s1 ⟨vs, H1, I1, r, q⟩ => ⟨I1.kIn, run_g F hgd hr hb hd hx I1 r q⟩) he hpl) hdb)⟩
theorem pe_g0 (F : FnG X.prog X.w X.K X.mg X.base CX k f fd ps sp) (hgd : X.A.guards = some []) (hr : Room k X.A) (hg : Gl X x) (hm : X.mg x = some (.ref f)) (hk : PySem.W.keepIn X.K (.ref f) = true) (hb : Binds X.K fd ps ds) (hd : Vals dvs ds) (hx : Passes CX X E)
    (hdb : (x == ("__debug__" : Str)) = false := by decide) : PE X (.Call (.Name x p) [] [] pos) (tCall sp dvs E tNil) := ⟨fun pins s σ H Q I h =>
  wpAny_Call_Name_kw (ld_glob I hg hm (PySem.W.callWith_K0 I.kIn hk (run_g (us := []) F hgd hr hb hd hx I .nil h)) hdb)⟩
/-- f(k = v, ..) by names alone: hb puts the values in the parameters' order -/
def KwBinds (K : PySem.W.Frag) (fd : FuncData) (ps ks : List Str) (g : {α : Type} → List α → List α) : Prop :=
  ∀ (s : Shared) (ws : List Value), K.In s.heap → ws.length = ps.length → BindsTo s fd ⟨[], ks.zip ws⟩ (ps.zip (g ws))
def tKw (sp : Sp) (g : {α : Type} → List α → List α) (n : Nat) (E : XK) (tk : TA) : TE := fun σ H Q => tk σ H fun zs H2 => zs.length = n ∧ sp (g zs) H2 Q E
theorem pe_kw {g : {α : Type} → List α → List α} (F : FnG X.prog X.w X.K X.mg X.base CX k f fd ps sp) (hgd : X.A.guards = some []) (hr : Room k X.A) (hg : Gl X x) (hm : X.mg x = some (.ref f)) (hk : PySem.W.keepIn X.K (.ref f) = true) (hb : KwBinds X.K fd ps ks g) (hx : Passes CX X E)
    (hkw : PK X kws tk) (hrel : ∀ {zs : List V} {ws : List Value}, Vals zs ws → Vals (g zs) (g ws)) (hall : (backToKw pos (keywordEach kws X.env)).all (·.1.isSome) = true := by rfl) (hks : (backToKw pos (keywordEach kws X.env)).filterMap (·.1) = ks := by rfl) (hdb : (x == ("__debug__" : Str)) = false := by decide)
    (hpl : ((backTo pos (starEach [] X.env)).any (·.1) || (backToKw pos (keywordEach kws X.env)).any (·.1.isNone)) = false := by rfl) :
    PE X (.Call (.Name x p) [] kws pos) (tKw sp g ps.length E tk) := by
  refine ⟨fun pins s σ H Q I h => wpAny_Call_Name_kw (ld_glob I hg hm ?_ hdb)⟩
  refine PySem.W.callWith_KW0 (h₀ := X.base) I.ok.mod.kin hk hall ?_ hpl
  refine thn (hkw.run pos pins s σ H _ I h) fun ws s2 ⟨zs, H2, I2, rz, hz, q2⟩ => ⟨I2.kIn, ?_⟩
  rw [hks]
  have rg := hrel rz
  refine wpAny_call (codeAny_mono (F.go X.A X.stack s2 H2 ⟨[], ks.zip ws⟩ (g ws) (g zs) Q E hgd hr I2.env0 (hb s2 ws I2.kIn (rz.length.symm.trans hz)) rg q2) fun z s3 hq => ?_)
  cases z with
  | error er => exact hx pins σ H2 s2 er s3 I2 hq
  | ok fl =>
    cases fl with
    | ret u => exact I2.after hq
    | next => exact hq.elim
    | brk => exact hq.elim
    | cont => exact hq.elim
end
end L2.Hx

/-! Data of any depth, dicts too, over a part G of the tracked heap; repr of data. -/
namespace L2.Hx
open PySem PySem.Spec PyProof.Rows

def keyD : Key → PyData
  | .inl i => .int i
  | .inr x => .str x
mutual
inductive Da (K : PySem.W.Frag) (G : Hp) : V → PyData → Prop
  | non : Da K G .non .none
  | bl (b : Bool) : Da K G (.bl b) (.bool b)
  | int (i : Int) : Da K G (.int i) (.int i)
  | str (x : Str) : Da K G (.str x) (.str x)
  | lst {a : Addr} {xs : List V} {ds : List PyData} : G a = some (.lst xs) → DaAll K G xs ds → Da K G (.ref a) (.list ds)
  | tup {a : Addr} {xs : List V} {ds : List PyData} : SqT K G a xs → DaAll K G xs ds → Da K G (.ref a) (.tuple ds)
  | dct {a : Addr} {kvs : List (Key × V)} {ds : List PyData} : G a = some (.dK kvs) → DaAll K G (kvs.map (·.2)) ds → Da K G (.ref a) (.dict ((kvs.map fun p => keyD p.1).zip ds))
inductive DaAll (K : PySem.W.Frag) (G : Hp) : List V → List PyData → Prop
  | nil : DaAll K G [] []
  | cons {v : V} {vs : List V} {d : PyData} {ds : List PyData} : Da K G v d → DaAll K G vs ds → DaAll K G (v :: vs) (d :: ds)
end
section
variable {K : PySem.W.Frag} {G G' : Hp}
theorem DaAll.length : ∀ {vs : List V} {ds : List PyData}, DaAll K G vs ds → vs.length = ds.length
  | _, _, .nil => rfl
  | _, _, .cons _ t => by rw [List.length_cons, List.length_cons, DaAll.length t]
theorem sameT {a : Addr} {xs : List V} (e : Same G G') (h : SqT K G a xs) : SqT K G' a xs := by
  rcases h with (q | ⟨o, q⟩) | q
  · exact .inl (.inl (e _ _ q))
  · exact .inl (.inr ⟨o, e _ _ q⟩)
  · exact .inr q
mutual
theorem Da.mono (e : Same G G') : ∀ {v : V} {d : PyData}, Da K G v d → Da K G' v d
  | _, _, .non => .non
  | _, _, .bl b => .bl b
  | _, _, .int i => .int i
  | _, _, .str x => .str x
  | _, _, .lst h t => .lst (e _ _ h) (DaAll.mono e t)
  | _, _, .tup h t => .tup (sameT e h) (DaAll.mono e t)
  | _, _, .dct h t => .dct (e _ _ h) (DaAll.mono e t)
theorem DaAll.mono (e : Same G G') : ∀ {vs : List V} {ds : List PyData}, DaAll K G vs ds → DaAll K G' vs ds
  | _, _, .nil => .nil
  | _, _, .cons h t => .cons (Da.mono e h) (DaAll.mono e t)
end
theorem DaAll.append : ∀ {vs ws : List V} {ds es : List PyData}, DaAll K G vs ds → DaAll K G ws es → DaAll K G (vs ++ ws) (ds ++ es)
  | _, _, _, _, .nil, s => s
  | _, _, _, _, .cons h t, s => .cons h (DaAll.append t s)
theorem DaAll.get : ∀ {vs : List V} {ds : List PyData} {i : Nat} {v : V}, DaAll K G vs ds → vs[i]? = some v → ∃ d, ds[i]? = some d ∧ Da K G v d
  | _, _, 0, _, .cons h t, e => by
    rw [List.getElem?_cons_zero] at e
    cases e
    exact ⟨_, rfl, h⟩
  | _, _, i + 1, v, .cons h t, e => by
    rw [List.getElem?_cons_succ] at e ⊢
    exact DaAll.get t e
theorem DaAll.mem {vs : List V} {ds : List PyData} {v : V} (h : DaAll K G vs ds) (m : v ∈ vs) : ∃ d, d ∈ ds ∧ Da K G v d := by
  obtain ⟨i, e⟩ := List.mem_iff_getElem?.mp m
  obtain ⟨d, e2, q⟩ := h.get e
  exact ⟨d, List.mem_of_getElem? e2, q⟩
theorem DaAll.take : ∀ {vs : List V} {ds : List PyData} (n : Nat), DaAll K G vs ds → DaAll K G (vs.take n) (ds.take n)
  | _, _, 0, _ => .nil
  | _, _, _ + 1, .nil => .nil
  | _, _, n + 1, .cons h t => .cons h (DaAll.take n t)
theorem DaAll.drop : ∀ {vs : List V} {ds : List PyData} (n : Nat), DaAll K G vs ds → DaAll K G (vs.drop n) (ds.drop n)
  | _, _, 0, h => h
  | _, _, _ + 1, .nil => .nil
  | _, _, n + 1, .cons _ t => DaAll.drop n t
theorem DaAll.rep {v : V} {d : PyData} (h : Da K G v d) : ∀ n : Nat, DaAll K G (List.replicate n v) (List.replicate n d)
  | 0 => .nil
  | n + 1 => .cons h (DaAll.rep h n)
theorem DaAll.set {v : V} {d : PyData} (h : Da K G v d) : ∀ {vs : List V} {ds : List PyData} (i : Nat), DaAll K G vs ds → DaAll K G (vs.set i v) (ds.set i d)
  | _, _, _, .nil => .nil
  | _, _, 0, .cons _ t => .cons h t
  | _, _, i + 1, .cons q t => .cons q (DaAll.set h i t)
theorem DaAll.flat {vs : List V} {ds : List PyData} (h : DaAll K G vs ds) : ∀ n : Nat, DaAll K G (List.replicate n vs).flatten (List.replicate n ds).flatten
  | 0 => .nil
  | n + 1 => by
    rw [List.replicate_succ, List.replicate_succ, List.flatten_cons, List.flatten_cons]
    exact h.append (DaAll.flat h n)
end

theorem pairs_keys {P : Program} {w : World} : ∀ {es : List DictEntry} {kvs : List (Key × V)} {vs : List (Key × Value)}, KV kvs vs → Pairs (mixKind P w) es vs →
    Vals (kvs.map fun p => kV p.1) (es.map (·.key)) ∧ Vals (kvs.map (·.2)) (es.map (·.val))
  | _, _, _, .nil, .nil => ⟨.nil, .nil⟩
  | e :: es, (k, v) :: kvs, (k', u) :: vs, .cons ⟨r1, r2⟩ t, .cons h1 h2 h3 => by
    obtain ⟨a, b⟩ := pairs_keys t h3
    refine ⟨.cons ?_ a, .cons ?_ b⟩
    · have r1 : k = k' := r1
      have h1 : keyIs k' e.key = true := h1
      subst r1
      rcases keyIs_shape h1 with ⟨i, tk, rfl, q⟩ | ⟨x, tk, rfl, q⟩
      · exact ⟨tk, q⟩
      · exact ⟨tk, q⟩
    · show RelV v e.val
      rw [h2]
      exact r2
theorem keyD_da {K : PySem.W.Frag} {G : Hp} : ∀ (ks : List Key), DaAll K G (ks.map kV) (ks.map keyD)
  | [] => .nil
  | .inl i :: r => .cons (.int i) (keyD_da r)
  | .inr x :: r => .cons (.str x) (keyD_da r)

section
variable {X : Cx} {pins : List (Addr × Obj)} {σ : St} {H G : Hp} {s : Shared}
theorem zip_fst : ∀ {as bs : List PyData}, as.length = bs.length → (as.zip bs).map (·.1) = as
  | [], _, _ => by simp
  | a :: as, b :: bs, h => by
    rw [List.zip_cons_cons, List.map_cons, zip_fst (by simpa using h)]
theorem zip_snd : ∀ {as bs : List PyData}, as.length = bs.length → (as.zip bs).map (·.2) = bs
  | [], [], _ => rfl
  | [], _ :: _, h => by simp at h
  | a :: as, [], h => by simp at h
  | a :: as, b :: bs, h => by
    rw [List.zip_cons_cons, List.map_cons, zip_snd (by simpa using h)]
/-- what stands at a dict's address -/
theorem dict_at {a : Addr} {kvs : List (Key × V)} (I : Inv X pins σ H s) (h : H a = some (.dK kvs)) : ∃ o es n, s.heap.get? a = some o ∧ o.cls = .type "dict" ∧ o.data = .dict es n ∧ (a == sysModules) = false ∧
    Vals (kvs.map fun p => kV p.1) (es.toList.map (·.key)) ∧ Vals (kvs.map (·.2)) (es.toList.map (·.val)) := by
  obtain ⟨_, hs, vs, r, o, es, ep, h1, h2, h3, _, h5, _⟩ := (show ObjOk X.prog X.w H s.heap a (.dK kvs) from I.hok a _ h)
  obtain ⟨q1, q2⟩ := pairs_keys r h5
  exact ⟨o, es, ep, h1, h2.1, h3, hs, q1, q2⟩
abbrev RkOf (X : Cx) (h : Heap) (u : Value) (d : PyData) : Prop := ∃ as bs, Reads h u d as ∧ ReadAtMost h d.depth bs ∧ ReprK X.prog X.w bs h d.depth u d.shown
abbrev RkAll (X : Cx) (h : Heap) (us : List Value) (ds : List PyData) : Prop := ∃ as bs, ReadsAll h us ds as ∧ ReadAtMost h (PyData.depthAll ds) bs ∧ ReprAllK X.prog X.w bs h (PyData.depthAll ds) us (PyData.shownAll ds)
theorem no_addr {h : Heap} {n : Nat} : ReadAtMost h n [] := fun b q => absurd q List.not_mem_nil
theorem rk_keys : ∀ (ks : List Key) (us : List Value), Vals (ks.map kV) us → PyData.showableAll (ks.map keyD) = true → (∀ t ∈ PyData.shownAll (ks.map keyD), t.length ≤ sizeLine) → RkAll X s.heap us (ks.map keyD)
  | [], _, .nil, _, _ => ⟨_, [], .nil, no_addr, .nil⟩
  | k :: ks, _, .cons r t, hs, hz => by
    rw [List.map_cons, PyData.showableAll, Bool.and_eq_true] at hs
    rw [List.map_cons] at hz ⊢
    unfold PyData.shownAll at hz
    obtain ⟨as, bs, q1, q2, q3⟩ := rk_keys ks _ t hs.2 fun z m => hz z (List.mem_cons_of_mem _ m)
    have h0 := hz _ List.mem_cons_self
    cases k with
    | inl i =>
      obtain ⟨tk, rfl⟩ := r
      exact ⟨_, bs, .cons (.int i tk) q1, q2.mono (Nat.le_max_right _ _), .cons (.of_is (ReprIs.int tk (by simpa [keyD, PyData.showable] using hs.1)) _ _ _) (q3.more_le (fun _ m => m) (Nat.le_max_right _ _))⟩
    | inr x =>
      obtain ⟨tk, rfl⟩ := r
      exact ⟨_, bs, .cons (.str x tk) q1, q2.mono (Nat.le_max_right _ _), .cons (.of_is (ReprIs.str x tk (by simpa only [keyD, PyData.shown] using h0)) _ _ _) (q3.more_le (fun _ m => m) (Nat.le_max_right _ _))⟩
/-- the entries of a dict as repr reads them -/
theorem rk_entries {es : List DictEntry} {kvs : List (Key × V)} {ds : List PyData} (vk : Vals (kvs.map fun p => kV p.1) (es.map (·.key))) (hl : kvs.length = ds.length)
    (hv : PyData.showableAll ds = true → (∀ t ∈ PyData.shownAll ds, t.length ≤ sizeLine) → RkAll X s.heap (es.map (·.val)) ds) (hs : PyData.showableKv ((kvs.map fun p => keyD p.1).zip ds) = true)
    (hz : (dictText (PyData.shownKv ((kvs.map fun p => keyD p.1).zip ds))).length ≤ sizeLine) :
    ∃ as1 as2 bs, ReadsAll s.heap (es.map (·.key)) (((kvs.map fun p => keyD p.1).zip ds).map (·.1)) as1 ∧ ReadsAll s.heap (es.map (·.val)) (((kvs.map fun p => keyD p.1).zip ds).map (·.2)) as2 ∧
      ReadAtMost s.heap (PyData.depthKv ((kvs.map fun p => keyD p.1).zip ds)) bs ∧ ReprEntriesK X.prog X.w bs s.heap (PyData.depthKv ((kvs.map fun p => keyD p.1).zip ds)) es (PyData.shownKv ((kvs.map fun p => keyD p.1).zip ds)) := by
  have hll : (kvs.map fun p => keyD p.1).length = ds.length := by rw [List.length_map]; exact hl
  generalize hkv : (kvs.map fun p => keyD p.1).zip ds = kv at hs hz ⊢
  obtain ⟨s1, s2⟩ := PyData.showableKv_split kv hs
  have e1 : kv.map (·.1) = kvs.map fun p => keyD p.1 := by rw [← hkv]; exact zip_fst hll
  have e2 : kv.map (·.2) = ds := by rw [← hkv]; exact zip_snd hll
  have ek : (kvs.map (·.1)).map kV = kvs.map fun p => kV p.1 := by rw [List.map_map]; rfl
  have ed : (kvs.map (·.1)).map keyD = kvs.map fun p => keyD p.1 := by rw [List.map_map]; rfl
  have z1 : ∀ t ∈ PyData.shownAll (kv.map (·.1)), t.length ≤ sizeLine := fun t ht => let ⟨p, hp, hl⟩ := PyData.shownKv_key_le kv t ht; Nat.le_trans hl (Nat.le_trans (dictText_mem_le hp) hz)
  have z2 : ∀ t ∈ PyData.shownAll (kv.map (·.2)), t.length ≤ sizeLine := fun t ht => let ⟨p, hp, hl⟩ := PyData.shownKv_val_le kv t ht; Nat.le_trans hl (Nat.le_trans (dictText_mem_le hp) hz)
  have m1 := PyData.depthAll_keys_le kv
  have m2 := PyData.depthAll_vals_le kv
  rw [PyData.shownKv_eq]
  rw [e1] at s1 z1 m1 ⊢
  rw [e2] at s2 z2 m2 ⊢
  rw [← ed] at s1 z1 m1 ⊢
  rw [← ek] at vk
  obtain ⟨as1, b1, r1, a1, k1⟩ := rk_keys (X := X) (s := s) _ _ vk s1 z1
  obtain ⟨as2, b2, r2, a2, k2⟩ := hv s2 z2
  exact ⟨as1, as2, b1 ++ b2, r1, r2, (a1.mono m1).append (a2.mono m2), ReprEntriesK.of_two es _ _ (k1.more_le (fun b q => List.mem_append_left _ q) m1) (k2.more_le (fun b q => List.mem_append_right _ q) m2)⟩
mutual
theorem Da.rk (I : Inv X pins σ H s) (sm : Same G H) : ∀ {d : PyData} {v : V} {u : Value}, Da X.K G v d → RelV v u → d.showable = true → d.shown.length ≤ sizeLine → RkOf X s.heap u d
  | _, _, _, .non, r, _, _ => by
    cases r
    exact ⟨_, [], .none, no_addr, by simp only [PyData.shown]; exact .of_is ReprIs.none _ _ _⟩
  | _, _, _, .bl b, r, _, _ => by
    cases r
    exact ⟨_, [], .bool b, no_addr, by simp only [PyData.shown]; exact .of_is (ReprIs.bool b) _ _ _⟩
  | _, _, _, .int i, r, hs, _ => by
    obtain ⟨t, rfl⟩ := r
    exact ⟨_, [], .int i t, no_addr, by simp only [PyData.shown]; exact .of_is (ReprIs.int t (by simpa [PyData.showable] using hs)) _ _ _⟩
  | _, _, _, .str x, r, _, hz => by
    obtain ⟨t, rfl⟩ := r
    exact ⟨_, [], .str x t, no_addr, by simp only [PyData.shown]; exact .of_is (ReprIs.str x t (by simpa only [PyData.shown] using hz)) _ _ _⟩
  | .list ds, .ref a, _, .lst h t, r, hs, hz => by
    cases r
    have hz2 : (listText (PyData.shownAll ds)).length ≤ sizeLine := by simpa only [PyData.shown] using hz
    obtain ⟨_, its, n, rv, e⟩ := (show ObjOk X.prog X.w H s.heap a (.lst _) from I.hok a _ (sm _ _ h))
    obtain ⟨as, bs, q1, q2, q3⟩ := DaAll.rk I sm t rv (by simpa [PyData.showable] using hs) fun z hz' => Nat.le_trans (listText_mem_le hz') hz2
    have rd : Reads s.heap (.ref a) (.list ds) _ := .list e rfl rfl q1
    have hna : a ∉ bs := not_mem_of_deeper rd (by simp only [PyData.depth]; omega) q2
    refine ⟨_, a :: bs, rd, ReadAtMost.cons rd (by simp only [PyData.depth]; omega) q2, ?_⟩
    simp only [PyData.depth, PyData.shown]
    cases its with
    | nil =>
      cases q1
      simp only [PyData.shownAll, listText_nil]
      exact ReprK.listEmpty e rfl rfl
    | cons y l => exact ReprK.list e rfl rfl hna (by simpa using q3.length_eq) fun i z e2 => q3.item i z (by simpa using e2)
  | .tuple ds, .ref a, _, .tup h t, r, hs, hz => by
    cases r
    have hz2 : (tupleText (PyData.shownAll ds)).length ≤ sizeLine := by simpa only [PyData.shown] using hz
    obtain ⟨its, rv, ⟨o, ho, hc, n, hd⟩, _⟩ := I.tuple (sameT sm h)
    obtain ⟨as, bs, q1, q2, q3⟩ := DaAll.rk I sm t rv (by simpa [PyData.showable] using hs) fun z hz' => Nat.le_trans (tupleText_mem_le hz') hz2
    have rd : Reads s.heap (.ref a) (.tuple ds) _ := .tuple ho hc hd q1
    have hna : a ∉ bs := not_mem_of_deeper rd (by simp only [PyData.depth]; omega) q2
    refine ⟨_, a :: bs, rd, ReadAtMost.cons rd (by simp only [PyData.depth]; omega) q2, ?_⟩
    simp only [PyData.depth, PyData.shown]
    exact ReprK.tuple ho hc hd hna q3
  | _, .ref a, _, @Da.dct _ _ _ kvs ds h t, r, hs, hz => by
    cases r
    have hz2 : (dictText (PyData.shownKv ((kvs.map fun p => keyD p.1).zip ds))).length ≤ sizeLine := by simpa only [PyData.shown] using hz
    obtain ⟨o, es, n, ho, hc, hd, hsys, vk, vv⟩ := dict_at I (sm _ _ h)
    obtain ⟨as1, as2, bs, r1, r2, a3, k3⟩ := rk_entries (X := X) (s := s) vk (by rw [← t.length, List.length_map]) (fun s2 z2 => DaAll.rk I sm t vv s2 z2) (by simpa [PyData.showable] using hs) hz2
    have rd : Reads s.heap (.ref a) (.dict ((kvs.map fun p => keyD p.1).zip ds)) _ := .dict ho hc hd r1 r2
    have hna : a ∉ bs := not_mem_of_deeper rd (by simp only [PyData.depth]; omega) a3
    refine ⟨_, a :: bs, rd, ReadAtMost.cons rd (by simp only [PyData.depth]; omega) a3, ?_⟩
    simp only [PyData.depth, PyData.shown]
    exact ReprK.dict ho hc hd hsys hna k3
theorem DaAll.rk (I : Inv X pins σ H s) (sm : Same G H) : ∀ {ds : List PyData} {vs : List V} {us : List Value}, DaAll X.K G vs ds → Vals vs us → PyData.showableAll ds = true → (∀ t ∈ PyData.shownAll ds, t.length ≤ sizeLine) → RkAll X s.heap us ds
  | _, _, _, .nil, .nil, _, _ => ⟨_, [], .nil, no_addr, .nil⟩
  | _, _, _, .cons h t, .cons r rs, hs, hz => by
    rw [PyData.showableAll, Bool.and_eq_true] at hs
    unfold PyData.shownAll at hz
    obtain ⟨as1, b1, q1, a1, k1⟩ := Da.rk I sm h r hs.1 (hz _ List.mem_cons_self)
    obtain ⟨as2, b2, q2, a2, k2⟩ := DaAll.rk I sm t rs hs.2 fun z m => hz z (List.mem_cons_of_mem _ m)
    refine ⟨_, b1 ++ b2, .cons q1 q2, (a1.mono (Nat.le_max_left _ _)).append (a2.mono (Nat.le_max_right _ _)), ?_⟩
    exact .cons ((k1.more fun b q => List.mem_append_left _ q).level_le (Nat.le_max_left _ _)) (k2.more_le (fun b q => List.mem_append_right _ q) (Nat.le_max_right _ _))
end
end

/-! ### repr(x) -/
def rRepr (K : PySem.W.Frag) : List V → Hp → VK → Prop := fun xs H Q => ∃ (v : V) (d : PyData) (G : Hp), xs = [v] ∧ Same G H ∧ Da K G v d ∧ d.showable = true ∧ d.depth ≤ 60 ∧ d.shown.length ≤ sizeLine ∧ Q (.str d.shown) H
section
variable {X : Cx}
theorem call_repr (hgd : X.A.guards = some []) (hu : X.A.units + 64 < cLine) : CallR X (.builtin "repr") (rRepr X.K) := by
  intro pins s σ H xs us Q I r h
  obtain ⟨v, d, G, rfl, sm, hd, hs, hdp, hz, q⟩ := h
  obtain ⟨u, rfl, rv⟩ := vals1 r
  have done : ∀ h' t tk, (∀ b o, s.heap.get? b = some o → h'.get? b = some o) → EP X pins σ Q (.str d.shown t) { s with heap := h', toks := tk } := fun h' t tk k => ⟨.str _, H, I.kept k, ⟨_, rfl⟩, q⟩
  cases hd with
  | non => cases rv; exact P.repr_of_none ⟨.str _, H, I.tok _, ⟨_, rfl⟩, by simpa only [PyData.shown] using q⟩
  | bl b => cases rv; exact P.repr_of_bool ⟨.str _, H, I.tok _, ⟨_, rfl⟩, by simpa only [PyData.shown] using q⟩
  | int i => obtain ⟨t, rfl⟩ := rv; exact P.repr_of_int (by simpa [PyData.showable] using hs) ⟨.str _, H, I.tok _, ⟨_, rfl⟩, by simpa only [PyData.shown] using q⟩
  | str x => obtain ⟨t, rfl⟩ := rv; exact P.repr_of_str ⟨.str _, H, I.tok _, ⟨_, rfl⟩, by simpa only [PyData.shown] using q⟩ (by simpa only [PyData.shown] using hz)
  | @lst a xs ds h t =>
    cases rv
    have hz2 : (listText (PyData.shownAll ds)).length ≤ sizeLine := by simpa only [PyData.shown] using hz
    obtain ⟨_, its, n, rw', e⟩ := (show ObjOk X.prog X.w H s.heap a (.lst _) from I.hok a _ (sm _ _ h))
    obtain ⟨as, bs, q1, q2, q3⟩ := DaAll.rk I sm t rw' (by simpa [PyData.showable] using hs) fun z hz' => Nat.le_trans (listText_mem_le hz') hz2
    have rd : Reads s.heap (.ref a) (.list ds) _ := .list e rfl rfl q1
    have hna : a ∉ bs := not_mem_of_deeper rd (by simp only [PyData.depth]; omega) q2
    simp only [PyData.depth] at hdp
    refine call_repr_slot (T := "list") (idr := "list.__repr__") (by omega) ⟨_, e, rfl⟩ F.slot_list_repr.toG ?_
    cases its with
    | nil =>
      cases q1
      refine call_list_repr_empty ⟨_, e, rfl⟩ e rfl ⟨_, _, rfl, ?_⟩
      have := done s.heap s.toks (s.toks + 1) fun _ _ k => k
      simpa only [PyData.shown, PyData.shownAll, listText_nil] using this
    | cons y l =>
      exact call_list_reprK e rfl rfl hna (by simpa using q3.length_eq) (fun i z e2 => q3.item i z (by simpa using e2)) hgd (fun b _ => Clear.nil b) (by show X.A.units + 1 + _ < _; omega) (fun _ _ k => k)
        (fun h' t tk k => ⟨_, _, rfl, by have := done h' t tk k; simpa only [PyData.shown] using this⟩) hz2
  | @tup a xs ds h t =>
    cases rv
    have hz2 : (tupleText (PyData.shownAll ds)).length ≤ sizeLine := by simpa only [PyData.shown] using hz
    obtain ⟨its, rw', ⟨o, ho, hc, n, hdd⟩, _⟩ := I.tuple (sameT sm h)
    obtain ⟨as, bs, q1, q2, q3⟩ := DaAll.rk I sm t rw' (by simpa [PyData.showable] using hs) fun z hz' => Nat.le_trans (tupleText_mem_le hz') hz2
    have rd : Reads s.heap (.ref a) (.tuple ds) _ := .tuple ho hc hdd q1
    have hna : a ∉ bs := not_mem_of_deeper rd (by simp only [PyData.depth]; omega) q2
    simp only [PyData.depth] at hdp
    exact call_repr_slot (T := "tuple") (idr := "tuple.__repr__") (by omega) ⟨_, ho, hc⟩ F.slot_tuple_repr
      (call_tuple_reprK ho hc hdd hna q3 hgd (fun b _ => Clear.nil b) (by show X.A.units + 1 + _ < _; omega) (fun _ _ k => k) (fun h' t tk k => ⟨_, _, rfl, by have := done h' t tk k; simpa only [PyData.shown] using this⟩) hz2)
  | @dct a kvs ds h t =>
    cases rv
    have hz2 : (dictText (PyData.shownKv ((kvs.map fun p => keyD p.1).zip ds))).length ≤ sizeLine := by simpa only [PyData.shown] using hz
    obtain ⟨o, es, n, ho, hc, hdd, hsys, vk, vv⟩ := dict_at I (sm _ _ h)
    obtain ⟨as1, as2, bs, r1, r2, a3, k3⟩ := rk_entries (X := X) (s := s) vk (by rw [← t.length, List.length_map]) (fun s2 z2 => DaAll.rk I sm t vv s2 z2) (by simpa [PyData.showable] using hs) hz2
    have rd : Reads s.heap (.ref a) (.dict ((kvs.map fun p => keyD p.1).zip ds)) _ := .dict ho hc hdd r1 r2
    have hna : a ∉ bs := not_mem_of_deeper rd (by simp only [PyData.depth]; omega) a3
    simp only [PyData.depth] at hdp
    exact call_repr_slot (T := "dict") (idr := "dict.__repr__") (by omega) ⟨_, ho, hc⟩ F.slot_dict_repr
      (call_dict_reprK ho hc hdd hsys hna k3 hgd (fun b _ => Clear.nil b) (by show X.A.units + 1 + _ < _; omega) (fun _ _ k => k) (fun h' t tk k => ⟨_, _, rfl, by have := done h' t tk k; simpa only [PyData.shown] using this⟩) hz2)
end
end L2.Hx

/-! Own rules: «x in words» for any data x, enumerate of a tuple. -/
namespace L2.Hx
open PySem PySem.Spec PyProof.Rows
open AutoSeq1 (wpAny_loadPart')

section
theorem str_eq_dict (b : Str) (u : Tok) (l : Addr) (es : Array DictEntry) (n : Nat) (dd : Option Addr) (sl : Array (Option Value)) :
    Meets (Builtin.«str.__eq__» ⟨[.str b u, .ref l], []⟩) (fun _ R s => s.heap.get? l = some { cls := .type "dict", dict := dd, data := .dict es n, slots := sl } ∧ R (.ok (.ret .notImplemented)) s) :=
  .of_wp fun prog w A R s h => by
    obtain ⟨hp, g, d, tk, os⟩ := s
    obtain ⟨hl, h⟩ := h
    wp_walk using wpAny_load hl
    exact ⟨_, rfl, h⟩
theorem dict_eq_str (b : Str) (u : Tok) (l : Addr) (es : Array DictEntry) (n : Nat) (dd : Option Addr) (sl : Array (Option Value)) :
    Meets (Builtin.«dict.__eq__» ⟨[.ref l, .str b u], []⟩) (fun _ R s => s.heap.get? l = some { cls := .type "dict", dict := dd, data := .dict es n, slots := sl } ∧ R (.ok (.ret .notImplemented)) s) :=
  .of_wp fun prog w A R s h => by
    obtain ⟨hp, g, d, tk, os⟩ := s
    obtain ⟨hl, h⟩ := h
    have f1 := F.sub_str_dict
    wp_walk using wpAny_load hl
    exact ⟨_, rfl, h⟩
theorem str_is_dict {A : Around} {s : Shared} {l : Addr} {es : Array DictEntry} {n : Nat} {dd : Option Addr} {sl : Array (Option Value)} (b : Str) (u : Tok) (ho : s.heap.get? l = some { cls := .type "dict", dict := dd, data := .dict es n, slots := sl }) (hu : A.units < cLine) :
    SeqAt.EqAt A s (.str b u) (.ref l) false := fun prog w E Q h => by
  unfold eqBool
  refine wpAny_holding ?_
  refine wpAny_ite_split (fun hab => absurd (eq_of_beq hab) nofun) fun _ => ?_
  refine wpAny_bind ?_
  exact SeqAt.rc_eq_decline_or (k := false) (typeIs_str s b u) ⟨_, ho, rfl⟩ (by decide) F.sub_dict_str F.slot_str_eq F.slot_dict_eq_refl
    (fun Q2 hq => call_meets F.slot_str_eq (typeIs_str s b u) F.entry_str_eq (F.args_str_eq_2 _ _) (str_eq_dict b u l es n dd sl) ⟨ho, hq⟩)
    (fun Q2 hq => call_meets F.slot_dict_eq_refl ⟨_, ho, rfl⟩ F.entry_dict_eq (F.args_dict_eq_2 _ _) (dict_eq_str b u l es n dd sl) ⟨ho, hq⟩)
    (fun Q2 hq => wpAny_of_eq (rfl : isSame (.str b u) (.ref l) = pure false) hq) (.inr hu) (wpAny_truthy_bool h)
end
/-- is the word a text among these -/
def inWs (d : PyData) (ws : List Str) : Bool := match d with
  | .str z => decide (z ∈ ws)
  | _ => false
def eqW (d : PyData) (u : Value) : Bool := match d, u with
  | .str z, .str y _ => y == z
  | _, _ => false
section
variable {X : Cx} {pins : List (Addr × Obj)} {σ : St} {H G : Hp} {s : Shared}
theorem any_eqW : ∀ {d : PyData} {ws : List Str} {us : List Value}, Vals (ws.map V.str) us → us.any (eqW d) = inWs d ws
  | d, [], _, .nil => by
    cases d <;> simp [inWs]
  | d, w :: ws, _, .cons r t => by
    obtain ⟨tk, rfl⟩ := r
    rw [List.any_cons, any_eqW (d := d) t]
    cases d <;> simp [eqW, inWs]
    rename_i z
    by_cases h : w = z
    · subst h
      simp
    · simp [h, Ne.symm h]
theorem eq_word (hu : X.A.units + 64 < cLine) (I : Inv X pins σ H s) (sm : Same G H) {v : V} {d : PyData} {x : Value} (hd : Da X.K G v d) (rx : RelV v x) (y : Str) (t : Tok) : SeqAt.EqAt X.A.in1 s (.str y t) x (eqW d (.str y t)) := by
  have hu1 : X.A.in1.units < cLine := by show X.A.units + 1 < _; omega
  cases hd with
  | non => cases rx; exact SeqAt.EqAt.str_none y t
  | bl b => cases rx; exact SeqAt.EqAt.str_bool y t b
  | int i => obtain ⟨tk, rfl⟩ := rx; exact SeqAt.EqAt.str_int y t i tk
  | str z => obtain ⟨tk, rfl⟩ := rx; exact SeqAt.EqAt.str_str y t z tk
  | @lst a xs ds h _ =>
    cases rx
    obtain ⟨_, its, n, _, e⟩ := (show ObjOk X.prog X.w H s.heap a (.lst _) from I.hok a _ (sm _ _ h))
    exact SeqAt.EqAt.str_list y t ⟨_, e, rfl, _, rfl⟩ hu1
  | @tup a xs ds h _ =>
    cases rx
    obtain ⟨its, _, p, _⟩ := I.tuple (sameT sm h)
    exact SeqAt.EqAt.str_tuple y t p hu1
  | @dct a kvs ds h _ =>
    cases rx
    obtain ⟨o, es, n, ho, hc, hdd, _⟩ := dict_at I (sm _ _ h)
    obtain ⟨c, dd, data, sl⟩ := o
    simp only at hc hdd
    subst hc hdd
    exact str_is_dict y t ho hu1
/-- x in ws, x any data, ws a list or tuple of texts -/
def rInW (K : PySem.W.Frag) (neg : Bool) : R2 := fun x y H Q => ∃ (p : Addr) (ws : List Str) (d : PyData) (G : Hp), y = .ref p ∧ (SqL K H p (ws.map V.str) ∨ SqT K H p (ws.map V.str)) ∧ Same G H ∧ Da K G x d ∧ Q (.bl (if neg then !inWs d ws else inWs d ws)) H
theorem in_words (hu : X.A.units + 64 < cLine) (I : Inv X pins σ H s) (sm : Same G H) {v : V} {d : PyData} {x : Value} (hd : Da X.K G v d) (rx : RelV v x) : ∀ {ws : List Str} {us : List Value}, Vals (ws.map V.str) us → ∀ u ∈ us, SeqAt.EqAt X.A.in1 s u x (eqW d u)
  | [], _, .nil => fun u hu => by cases hu
  | y :: ws, u :: us, .cons r t => fun u' hu' => by
    rcases List.mem_cons.mp hu' with rfl | hu'
    · obtain ⟨tk, rfl⟩ := r
      exact eq_word hu I sm hd rx y tk
    · exact in_words hu I sm hd rx t u' hu'
theorem op_inW (hu : X.A.units + 64 < cLine) : OpR X (compareOp .In) (rInW X.K false) := by
  intro pins s σ H x y v u Q I rx ry h
  obtain ⟨p, ws, d, G, rfl, hq, sm, hd, q⟩ := h
  cases ry
  have q : Q (.bl (inWs d ws)) H := q
  rcases hq with hq | hq
  · obtain ⟨its, r, pl, _⟩ := I.list hq
    refine SeqAt.in_listAt (eqW d) pl.isList (fun z hz => in_words hu I sm hd rx r z (by simpa using hz)) ⟨.bl _, H, I, rfl, ?_⟩
    rw [show its.toArray.any (eqW d) = its.any (eqW d) by simp, any_eqW r]
    exact q
  · obtain ⟨its, r, pl, _⟩ := I.tuple hq
    refine SeqAt.in_tupleAt (eqW d) pl (fun z hz => in_words hu I sm hd rx r z (by simpa using hz)) ⟨.bl _, H, I, rfl, ?_⟩
    rw [show its.toArray.any (eqW d) = its.any (eqW d) by simp, any_eqW r]
    exact q
theorem op_notInW (hu : X.A.units + 64 < cLine) : OpR X (compareOp .NotIn) (rInW X.K true) := by
  intro pins s σ H x y v u Q I rx ry h
  obtain ⟨p, ws, d, G, rfl, hq, sm, hd, q⟩ := h
  cases ry
  have q : Q (.bl (!inWs d ws)) H := q
  rcases hq with hq | hq
  · obtain ⟨its, r, pl, _⟩ := I.list hq
    refine SeqAt.notIn_listAt (eqW d) pl.isList (fun z hz => in_words hu I sm hd rx r z (by simpa using hz)) ⟨.bl _, H, I, rfl, ?_⟩
    rw [show its.toArray.any (eqW d) = its.any (eqW d) by simp, any_eqW r]
    exact q
  · obtain ⟨its, r, pl, _⟩ := I.tuple hq
    refine SeqAt.notIn_tupleAt (eqW d) pl (fun z hz => in_words hu I sm hd rx r z (by simpa using hz)) ⟨.bl _, H, I, rfl, ?_⟩
    rw [show its.toArray.any (eqW d) = its.any (eqW d) by simp, any_eqW r]
    exact q
end

/-! ### isinstance of data -/
def tyD : PyData → String
  | .none => "NoneType"
  | .bool _ => "bool"
  | .int _ => "int"
  | .str _ => "str"
  | .list _ => "list"
  | .tuple _ => "tuple"
  | .dict _ => "dict"
def isTup : PyData → Bool
  | .tuple _ => true
  | _ => false
def isStr : PyData → Bool
  | .str _ => true
  | _ => false
def rIsiD (K : PySem.W.Frag) : List V → Hp → VK → Prop := fun xs H Q => ∃ (x : V) (d : PyData) (G : Hp), Same G H ∧ Da K G x d ∧ ((xs = [x, .ty "tuple"] ∧ Q (.bl (isTup d)) H) ∨ (xs = [x, .ty "str"] ∧ Q (.bl (isStr d)) H))
section
variable {X : Cx} {pins : List (Addr × Obj)} {σ : St} {H G : Hp} {s : Shared}
theorem kit_da (I : Inv X pins σ H s) (sm : Same G H) {v : V} {d : PyData} {u : Value} (hd : Da X.K G v d) (rv : RelV v u) : ∃ P : Heap → Prop, PySem.W.KitX X.K u (.type (tyD d)) P ∧ P s.heap ∧ u ≠ .builtin "__main__.__loader__#opaque" := by
  cases hd with
  | non => cases rv; exact ⟨_, PySem.W.kitx_none, True.intro, fun z => nomatch z⟩
  | bl b => cases rv; exact ⟨_, PySem.W.kitx_bool, True.intro, fun z => nomatch z⟩
  | int i => obtain ⟨t, rfl⟩ := rv; exact ⟨_, PySem.W.kitx_int, True.intro, fun z => nomatch z⟩
  | str x => obtain ⟨t, rfl⟩ := rv; exact ⟨_, PySem.W.kitx_str, True.intro, fun z => nomatch z⟩
  | @lst a xs ds h _ =>
    cases rv
    obtain ⟨_, its, n, _, e⟩ := (show ObjOk X.prog X.w H s.heap a (.lst _) from I.hok a _ (sm _ _ h))
    exact ⟨_, PySem.W.kitx_list, ⟨_, e, rfl⟩, fun z => nomatch z⟩
  | @tup a xs ds h _ =>
    cases rv
    obtain ⟨its, _, ⟨o, ho, hc, _⟩, _⟩ := I.tuple (sameT sm h)
    exact ⟨_, PySem.W.kitx_tuple, ⟨o, ho, hc⟩, fun z => nomatch z⟩
  | @dct a kvs ds h _ =>
    cases rv
    obtain ⟨o, es, n, ho, hc, _⟩ := dict_at I (sm _ _ h)
    exact ⟨_, PySem.W.kitx_dict, ⟨o, ho, hc⟩, fun z => nomatch z⟩
theorem kitB_tup : ∀ d : PyData, kitB (tyD d) "tuple" = some (isTup d)
  | .none => by
    show kitB "NoneType" "tuple" = some false
    decide +kernel
  | .bool _ => by
    show kitB "bool" "tuple" = some false
    decide +kernel
  | .int _ => by
    show kitB "int" "tuple" = some false
    decide +kernel
  | .str _ => by
    show kitB "str" "tuple" = some false
    decide +kernel
  | .list _ => by
    show kitB "list" "tuple" = some false
    decide +kernel
  | .tuple _ => by
    show kitB "tuple" "tuple" = some true
    decide +kernel
  | .dict _ => by
    show kitB "dict" "tuple" = some false
    decide +kernel
theorem kitB_str : ∀ d : PyData, kitB (tyD d) "str" = some (isStr d)
  | .none => by
    show kitB "NoneType" "str" = some false
    decide +kernel
  | .bool _ => by
    show kitB "bool" "str" = some false
    decide +kernel
  | .int _ => by
    show kitB "int" "str" = some false
    decide +kernel
  | .str _ => by
    show kitB "str" "str" = some true
    decide +kernel
  | .list _ => by
    show kitB "list" "str" = some false
    decide +kernel
  | .tuple _ => by
    show kitB "tuple" "str" = some false
    decide +kernel
  | .dict _ => by
    show kitB "dict" "str" = some false
    decide +kernel
theorem call_isiD : CallR X (.builtin "isinstance") (rIsiD X.K) := by
  intro pins s σ H xs us Q I r h
  obtain ⟨x, d, G, sm, hd, h⟩ := h
  rcases h with ⟨rfl, q⟩ | ⟨rfl, q⟩
  · obtain ⟨u1, u2, rfl, r1, r2⟩ := vals2 r
    cases r2
    obtain ⟨P, Z, p, hx⟩ := kit_da I sm hd r1
    exact PySem.W.kia_one Z I.kIn p (kit_ty (kitB_tup d)) hx fun tk => ⟨.bl _, H, I.tok tk, rfl, q⟩
  · obtain ⟨u1, u2, rfl, r1, r2⟩ := vals2 r
    cases r2
    obtain ⟨P, Z, p, hx⟩ := kit_da I sm hd r1
    exact PySem.W.kia_one Z I.kIn p (kit_ty (kitB_str d)) hx fun tk => ⟨.bl _, H, I.tok tk, rfl, q⟩
end

/-! ### enumerate(t), t a tuple -/
section
theorem new_enum {v : Value} {o : Obj} {HB : Heap → Prop} (B : Begins v o HB) :
    Meets (Builtin.«enumerate.__new__» ⟨[.type "enumerate", v], []⟩) (fun _ R s => HB s.heap ∧
      R (.ok (.ret (.ref (s.heap.push o).objs.size))) { s with heap := (s.heap.push o).push { cls := .type "enumerate", data := .fields #[.none, .bool false, .ref s.heap.objs.size, rawInt 0, .none, .none] } }) :=
  .of_wp fun prog w A R s h => by
    obtain ⟨hp, g, d, tk, os⟩ := s
    obtain ⟨h1, h⟩ := h
    have hsub := sub_enumerate
    have q1 : ∀ {A' : Around} {E : Value → Shared → Prop} {Q : Value → Shared → Prop}, Q (.ref hp.objs.size) ⟨hp.push o, g, d, tk, os⟩ → wpAny (model prog w) A' (pyIter v) Q E ⟨hp, g, d, tk, os⟩ :=
      fun q => B.iter prog w _ _ ⟨hp, g, d, tk, os⟩ _ h1 q
    wp_walk using q1
    refine wpAny_stack_any fun st => wpAny_pure ?_
    split
    · rename_i c _ _ _ _ _
      cases (c == Value.type "enumerate")
      · wp_walk using q1
        exact ⟨_, rfl, h⟩
      · wp_walk using q1
        exact ⟨_, rfl, h⟩
    · wp_walk using q1
      exact ⟨_, rfl, h⟩
theorem enum_of {prog : Program} {w : World} {A : Around} {E : Value → Shared → Prop} {s : Shared} {v : Value} {o : Obj} {HB : Heap → Prop} {Q : Value → Shared → Prop} (B : Begins v o HB) (h1 : HB s.heap)
    (h : ∀ h', IsEnum h' (s.heap.objs.size + 1) s.heap.objs.size 0 .none → h'.get? s.heap.objs.size = some o → h'.objs.size = s.heap.objs.size + 2 →
      (∀ b u, s.heap.get? b = some u → h'.get? b = some u) → Q (.ref (s.heap.objs.size + 1)) { s with heap := h' }) :
    wpAny (model prog w) A (call (.type "enumerate") [v]) Q E s := by
  refine callType_new F.called_enumerate (by decide) (F.typeCall_enumerate_1 _) (F.newCall_enumerate_1 _) (fun obj => F.args_object_init_2 obj _) F.entry_enumerate_new (new_enum B) ⟨h1, ?_⟩
  have hz : (s.heap.push o).objs.size = s.heap.objs.size + 1 := Heap.size_push ..
  show _ ∧ _
  rw [hz]
  have he := Heap.get?_push_size (s.heap.push o) (o := { cls := .type "enumerate", data := .fields #[.none, .bool false, .ref s.heap.objs.size, rawInt 0, .none, .none] }) rfl
  rw [hz] at he
  refine ⟨⟨_, he, rfl⟩, h _ he (Heap.get?_push_of_some _ (Heap.get?_push_size _ B.free)) (by rw [Heap.size_push, hz]) fun b u q => Heap.get?_push_of_some _ (Heap.get?_push_of_some _ q)⟩
/-- the tuple's items with their places, in new pairs -/
def Iet (K : PySem.W.Frag) (a : Addr) : It :=
  ⟨fun i H => ∃ (xs : List V) (x : V), SqT K H a xs ∧ xs[i]? = some x,
    fun i H v H' => ∃ T x, v = .ref T ∧ H T = none ∧ H' = upd H T (.tup [.int (i : Nat), x]) ∧ ∀ xs, SqT K H a xs → xs[i]? = some x,
    fun i H => ∃ xs : List V, SqT K H a xs ∧ xs.length ≤ i⟩
theorem turn_enumT {P : Program} {w : World} {K : PySem.W.Frag} {elts : List Expr} {kk : Nat} {tpos : Pos} (a e it : Addr) :
    Turn P w K (.Tuple elts kk tpos) (Iet K a) [e, it] e (fun i h => (∃ old, IsEnum h e it ((i : Nat) : Int) old) ∧ h.IsTupleIter it a i ∧ e ≠ it ∧ a ≠ it ∧ a ≠ e) where
  mem := by simp
  obj := fun i h st b hb => by
    obtain ⟨⟨old, he⟩, ⟨o, ho, hc, hd⟩, _⟩ := st
    have e' : b = e ∨ b = it := by simpa using hb
    rcases e' with z | z
    · rw [z]; exact ⟨_, he, fun v q => nomatch q⟩
    · rw [z]; exact ⟨o, ho, fun v q => by rw [hd] at q; cases q⟩
  keep := fun i h h' st k => let ⟨⟨old, he⟩, hi, hne⟩ := st; ⟨⟨old, k e (by simp) _ he⟩, hi.at fun o q => k it (by simp) o q, hne⟩
  item := by
    intro X hP hw hK hc i pins s σ H E I hf st hg
    subst hP hw hK
    obtain ⟨⟨old, he⟩, hit, hne, hai, hae⟩ := st
    obtain ⟨xs, x, hq, hx⟩ := hg
    obtain ⟨its, rv, p, hz⟩ := I.tuple hq
    obtain ⟨u, hu, ru⟩ := rv.get hx
    have hel : e < s.heap.objs.size := Heap.lt_size he
    have hil : it < s.heap.objs.size := by obtain ⟨_, q, _⟩ := hit; exact Heap.lt_size q
    have hlt : i < its.toArray.size := by
      have q := (List.getElem?_eq_some_iff.mp hu).1
      simpa using q
    refine wpAny_pyNext_enum_itemD (Draws.tuple (A := X.A.in1) (I.ok.hd hc) it a hai its.toArray) he ⟨hit, p⟩ hlt hne (fun z => by
      have z : e = it ∨ e = a := by simpa using z
      rcases z with z | z
      · exact hne z
      · exact hae z.symm) fun y h' tk hP ho hst hT hsz hk => ?_
    have ey : y = u := by
      have z : its.toArray[i]? = some y := hP
      rw [List.getElem?_toArray, hu] at z
      cases z
      rfl
    subst ey
    refine ⟨_, rfl, wpAny_letOwnedTupleGo_enum (s := { s with heap := h', toks := tk + 1 }) ho fun h'' he' sb => ?_⟩
    have hT2 : h''.get? s.heap.objs.size = some { cls := .type "tuple", data := .seq #[.int i tk, y] } := (sb.2 _ (Nat.ne_of_gt hel)).trans hT
    have new : ObjOk X.prog X.w (upd H s.heap.objs.size (.tup [.int (i : Nat), x])) h'' s.heap.objs.size (.tup [.int (i : Nat), x]) :=
      ⟨by show 2 ≤ sizeLine; decide, [.int i tk, y], .cons ⟨_, rfl⟩ (.cons ru .nil), ⟨_, hT2, rfl, _, rfl⟩⟩
    have I1 : Inv X pins σ (upd H s.heap.objs.size (.tup [.int (i : Nat), x])) { s with heap := h'', toks := tk + 1 } :=
      I.turnedNew (ch := [e, it]) (fun b ob hb q => (sb.2 b (fun z => hb (by simp [z]))).trans (hk b ob (fun z => hb (by simp [z])) (fun z => hb (by simp [z])) q)) hf (Nat.le_refl _) new
    refine ⟨.ref s.heap.objs.size, _, I1, rfl, ⟨_, x, rfl, I.hok.fresh (Nat.le_refl _), rfl, fun ys hy => by rw [I.tuple_inj hy hq]; exact hx⟩, ⟨⟨y, ?_⟩, hst.1.at fun o q => (sb.2 it (Ne.symm hne)).trans q, hne, hai, hae⟩, fun b hb => ?_⟩
    · have e1 : ((i + 1 : Nat) : Int) = (i : Int) + 1 := by omega
      rw [e1]; exact he'
    · have hb' : b < s.heap.objs.size := by
        have e' : b = e ∨ b = it := by simpa using hb
        rcases e' with z | z
        · rw [z]; exact hel
        · rw [z]; exact hil
      rw [upd_ne (Nat.ne_of_lt hb')]
      exact (hf b hb).1
  done := by
    intro X hP hw hK hc i pins s σ H E I hf st hg
    subst hP hw hK
    obtain ⟨⟨old, he⟩, hit, hne, hai, hae⟩ := st
    obtain ⟨xs, hq, hx⟩ := hg
    obtain ⟨its, rv, p, hz⟩ := I.tuple hq
    obtain ⟨f0, f1, f2, f3, f4, f5⟩ := hf it (by simp)
    have hl := rv.length
    have hh : X.A.in1.handled = none := I.ok.hd hc
    have D := Draws.tuple (prog := X.prog) (w := X.w) (A := X.A.in1) hh it a hai its.toArray
    have hT : s.TypeIs (.ref e) "enumerate" := ⟨_, he, rfl⟩
    have hx' : its.toArray[i]? = none := by simp; omega
    unfold pyNext
    refine wpAny_bind (wpAny_attempt (wpAny_callSpecial?_slot (name := Str.ofString "__next__") hT F.slot_enumerate_next
      (wpAny_call_entry F.slot_enumerate_next hT F.entry_enumerate_next ?_ (F.args_enumerate_next_1 _))))
    show wpAny _ _ (field (.ref e) 2 >>= _) _ _ _
    refine wpAny_bind (wpAny_field he rfl (x := .ref it) rfl ?_)
    refine wpAny_bind (wpAny_nextOf_tuple_end hh hit p hx' fun h' x eb ht => ?_)
    obtain ⟨o, ho, hcl⟩ := ht
    refine wpAny_bind (wpAny_isInstance (T := "StopIteration") (b := true) ⟨o, ho, hcl⟩ isSubtype_stop ?_)
    exact wpAny_pure ⟨rfl, I.turned (t' := s.toks) (fun b o hb q => eb b o hb q) f0 f1 f3 f4 f5⟩
  self := fun A i s Q E st h => let ⟨⟨_, he⟩, _⟩ := st; wpAny_pyIter_enum he h
def iEnumT (K : PySem.W.Frag) (ta : TA) : TI := fun σ H R => ta σ H fun vs H1 => ∃ a xs, vs = [.ref a] ∧ SqT K H1 a xs ∧ R (Iet K a) H1
theorem pi_enumT {X : Cx} {e : Expr} {ta : TA} {p pos tpos : Pos} {elts : List Expr} {kk : Nat} (hg : Gl X "enumerate") (hm : X.mg "enumerate" = none) (ha : PA X [e] ta) (hs : starEach [e] X.env = [(false, eval e X.env)] := by rfl) :
    PI X (.Tuple elts kk tpos) (.Call (.Name "enumerate" p) [e] [] pos) (iEnumT X.K ta) := by
  refine ⟨fun pins s σ H R I h => ?_⟩
  refine Call_ (ld_blt I hg hm boot_enumerate (PyProof.Rows.callWith_type1 (thn (ha.run pos pins s σ H _ I h) fun us s1 ⟨vs, H1, I1, r1, q1⟩ => ?_) hs rfl))
  obtain ⟨a, xs, rfl, hq, q⟩ := q1
  obtain ⟨u, rfl, r⟩ := vals1 r1
  cases r
  obtain ⟨its, rv, p', hz⟩ := I1.tuple hq
  have hlt : a < s1.heap.objs.size := p'.lt
  refine enum_of (begins_tuple a its.toArray) p' fun h' he hit hsz hk => wpAny_pyIter_enum he ?_
  have I2 : Inv X pins σ H1 { s1 with heap := h' } := I1.kept (t' := s1.toks) hk
  refine ⟨s1.heap.objs.size + 1, [s1.heap.objs.size + 1, s1.heap.objs.size], _, _, H1, rfl, I2, turn_enumT a (s1.heap.objs.size + 1) s1.heap.objs.size, ⟨⟨.none, he⟩, ⟨_, hit, rfl, rfl⟩, Nat.succ_ne_self _, Nat.ne_of_lt hlt, Nat.ne_of_lt (Nat.lt_succ_of_lt hlt)⟩, fun b hb => ?_, q⟩
  have e' : b = s1.heap.objs.size + 1 ∨ b = s1.heap.objs.size := by simpa using hb
  have hle : s1.heap.objs.size ≤ b := by
    rcases e' with z | z
    · rw [z]; exact Nat.le_add_right _ _
    · rw [z]; exact Nat.le_refl _
  exact I1.fpOk hle (I1.hok.fresh hle)
/-- for i, x in enumerate(t): the tuple stands, the pair is new -/
theorem for_enumT {K : PySem.W.Frag} {a : Addr} {xs : List V} {g : TG} {tb : TS} {D : Ends} {σ : St} {H : Hp} (Pv : Nat → St → Hp → Prop) (h0 : Pv 0 σ H) (hl : ∀ i σ H, i ≤ xs.length → Pv i σ H → SqT K H a xs)
    (hs : ∀ (i : Nat) (x : V) (T : Addr) (σ : St) (H : Hp), xs[i]? = some x → Pv i σ H → H T = none → g (.ref T) σ (upd H T (.tup [.int (i : Nat), x])) fun σ2 H2 => tb { D with nx := Pv (i + 1), ct := Pv (i + 1), bk := D.nx } σ2 H2)
    (hd : ∀ σ H, Pv xs.length σ H → D.nx σ H) : ∃ W : Nat → Nat → St → Hp → Prop, (∃ m, W 0 m σ H) ∧ ∀ i m σ H, W i m σ H →
      ((Iet K a).stop i H ∧ D.nx σ H) ∨ ((Iet K a).go i H ∧ ∃ N : St → Hp → Prop, (∀ σ2 H2, N σ2 H2 → ∃ m2, m2 < m ∧ W (i + 1) m2 σ2 H2) ∧ ∀ x H2, (Iet K a).yld i H x H2 → g x σ H2 fun σ3 H3 => tb { D with nx := N, ct := N, bk := D.nx } σ3 H3) := by
  refine ⟨fun i m σ H => m = xs.length - i ∧ i ≤ xs.length ∧ Pv i σ H, ⟨xs.length, by simp, Nat.zero_le _, h0⟩, ?_⟩
  rintro i m σ H ⟨rfl, hi, p⟩
  have q := hl i σ H hi p
  rcases Nat.lt_or_ge i xs.length with hlt | hge
  · refine .inr ⟨⟨xs, xs[i], q, by simp [hlt]⟩, Pv (i + 1), fun σ2 H2 p2 => ⟨xs.length - (i + 1), by omega, rfl, hlt, p2⟩, fun x H2 y => ?_⟩
    obtain ⟨T, z, rfl, hT, rfl, y⟩ := y
    exact hs i z T σ H (y xs q) p hT
  · have e : i = xs.length := by omega
    subst e
    exact .inl ⟨⟨xs, q, Nat.le_refl _⟩, hd σ H p⟩
end
end L2.Hx

/-! Defs of the text as promises; the law's deck beside a part G of the heap that never changes. -/
namespace L2.Hx
open PySem PySem.Spec PyProof.Rows

/-- a def of the text, where it stands -/
structure Src (K : PySem.W.Frag) (mg : Str → Option Value) (x : Str) (st : Stmt) (ps : List Str) (f : Addr) (fd : FuncData) : Prop where
  fn : Fun K x x st f fd
  at_ : mg x = some (.ref f)
  bd : Binds K fd ps []
/-- a def with its promise -/
structure Df (P : Program) (w : World) (K : PySem.W.Frag) (mg : Str → Option Value) (base : Heap) (k : Nat) (x : Str) (ps : List Str) (sp : Sp) : Prop where
  ex : ∃ (f : Addr) (fd : FuncData), FnG P w K mg base CX0 k f fd ps sp ∧ mg x = some (.ref f) ∧ PySem.W.keepIn K (.ref f) = true ∧ Binds K fd ps []
section
variable {P : Program} {w : World} {K : PySem.W.Frag} {mg : Str → Option Value} {base : Heap} {k : Nat} {x : Str} {ps : List Str} {sp : Sp}
theorem Df.mk' {st : Stmt} {N : List Str} {f : Addr} {fd : FuncData} (S : Src K mg x st ps f fd) (sc : FnScope N ps (defScope st)) (hn : ∀ vs H Q E, sp vs H Q E → vs.length = ps.length)
    (hbody : ∀ (cdv : Value) (A : Around) (outer : List Env) (s : Shared) (H : Hp) (vs : List V) (Q : VK) (E : XK), (A.deeper (envOfC x (defScope st) s.heap.objs.size f cdv)).guards = some [] → Room k (A.deeper (envOfC x (defScope st) s.heap.objs.size f cdv)) → sp vs H Q E →
      ∃ t, PSs (cxOf CX0 P w K mg base N x (defScope st) f cdv A outer s H E).nox (defBody st) t ∧ t { nx := fun _ H' => Q .non H', rt := Q } (start N vs) H) : Df P w K mg base (k + 1) x ps sp :=
  ⟨f, fd, okG S.fn sc hn hbody, S.at_, S.fn.kp, S.bd⟩
/-- a def with its promise and its text -/
def DfS (P : Program) (w : World) (K : PySem.W.Frag) (mg : Str → Option Value) (base : Heap) (k : Nat) (x : Str) (st : Stmt) (ps : List Str) (sp : Sp) : Prop := ∃ (f : Addr) (fd : FuncData), FnG P w K mg base CX0 k f fd ps sp ∧ Src K mg x st ps f fd
theorem DfS.mk' {st : Stmt} {N : List Str} {f : Addr} {fd : FuncData} (S : Src K mg x st ps f fd) (sc : FnScope N ps (defScope st)) (hn : ∀ vs H Q E, sp vs H Q E → vs.length = ps.length)
    (hbody : ∀ (cdv : Value) (A : Around) (outer : List Env) (s : Shared) (H : Hp) (vs : List V) (Q : VK) (E : XK), (A.deeper (envOfC x (defScope st) s.heap.objs.size f cdv)).guards = some [] → Room k (A.deeper (envOfC x (defScope st) s.heap.objs.size f cdv)) → sp vs H Q E →
      ∃ t, PSs (cxOf CX0 P w K mg base N x (defScope st) f cdv A outer s H E).nox (defBody st) t ∧ t { nx := fun _ H' => Q .non H', rt := Q } (start N vs) H) : DfS P w K mg base (k + 1) x st ps sp := ⟨f, fd, okG S.fn sc hn hbody, S⟩
theorem DfS.df {st : Stmt} (D : DfS P w K mg base k x st ps sp) : Df P w K mg base k x ps sp := let ⟨f, fd, a, S⟩ := D; ⟨f, fd, a, S.at_, S.fn.kp, S.bd⟩
/-- .. by keywords -/
theorem DfS.kw {st : Stmt} {ks : List Str} {g : {α : Type} → List α → List α} (D : DfS P w K mg base k x st ps sp) (h : ∀ (kV doc pm : Value) (an : Option Addr) (cdv ct : Value) (ws : List Value), ws.length = ps.length → bindArgs (PySem.W.fnOf x x (defArgs st) (defBody st) (defScope st) .none kV doc pm an cdv ct) ⟨[], ks.zip ws⟩ = pure (ps.zip (g ws))) :
    ∃ f fd, FnG P w K mg base CX0 k f fd ps sp ∧ mg x = some (.ref f) ∧ PySem.W.keepIn K (.ref f) = true ∧ KwBinds K fd ps ks g := by
  obtain ⟨f, fd, a, S⟩ := D
  refine ⟨f, fd, a, S.at_, S.fn.kp, ?_⟩
  obtain ⟨oc, od, kV, doc, pm, an, cdv, ct, osl, rfl, lk, hcd⟩ := S.fn.ex
  exact fun s ws _ hl => .of_eq (h kV doc pm an cdv ct ws hl)
theorem Df.mono {j : Nat} (F : Df P w K mg base j x ps sp) (h : j ≤ k) : Df P w K mg base k x ps sp := let ⟨f, fd, a, b, c, d⟩ := F.ex; ⟨f, fd, a.mono h, b, c, d⟩
theorem Df.imp {sp' : Sp} (F : Df P w K mg base k x ps sp) (h : ∀ vs H Q E, sp' vs H Q E → sp vs H Q E) : Df P w K mg base k x ps sp' := let ⟨f, fd, a, b, c, d⟩ := F.ex; ⟨f, fd, a.imp h, b, c, d⟩
end
section
variable {X : Cx} {k j : Nat} {x : Str} {ps : List Str} {sp : Sp} {p pos : Pos} {e : Expr} {es : List Expr} {t : TA}
theorem pe_d (F : Df X.prog X.w X.K X.mg X.base k x ps sp) (hgd : X.A.guards = some []) (hr : Room j X.A) (ha : PA X (e :: es) t) (hj : k ≤ j := by first | exact Nat.le_refl _ | decide) (hg : Gl X x := by rfl)
    (hdb : (x == ("__debug__" : Str)) = false := by decide) (he : starEach (e :: es) X.env = (false, eval e X.env) :: starEach es X.env := by rfl) (hpl : (backTo pos (starEach es X.env)).any (·.1) = false := by rfl) :
    PE X (.Call (.Name x p) (e :: es) [] pos) (tCall sp [] E0 t) := by
  obtain ⟨f, fd, a, b, c, d⟩ := F.ex
  exact pe_g a hgd (hr.mono hj) hg b c d .nil pass0 ha hdb he hpl
theorem pe_d0 (F : Df X.prog X.w X.K X.mg X.base k x ps sp) (hgd : X.A.guards = some []) (hr : Room j X.A) (hj : k ≤ j := by first | exact Nat.le_refl _ | decide) (hg : Gl X x := by rfl) (hdb : (x == ("__debug__" : Str)) = false := by decide) :
    PE X (.Call (.Name x p) [] [] pos) (tCall sp [] E0 tNil) := by
  obtain ⟨f, fd, a, b, c, d⟩ := F.ex
  exact pe_g0 a hgd (hr.mono hj) hg b c d .nil pass0 hdb
end

/-! ### the stock: a list of the list of great numbers, the list of all of them, their sum, a count -/
structure DeckM where
  at_ : Addr
  all : List Int
  sum : Int
def deckL (l : Addr) (m : DeckM) (t : Int) : List V := [.ref l, .ref m.at_, .int m.sum, .int t]
/-- all numbers stand, and there is one -/
structure DeckM.In (m : DeckM) (G : Hp) : Prop where
  has : G m.at_ = some (.lst (m.all.map V.int))
  pos : 0 < m.all.length
  few : m.all.length ≤ 64
theorem DeckM.In.mono {m : DeckM} {G G' : Hp} (h : m.In G) (s : Same G G') : m.In G' := ⟨s _ _ h.has, h.pos, h.few⟩
/-- the deck stands at p with its list at l; G, which tracks neither, is a part of H -/
structure Wd (p l : Addr) (G H : Hp) : Prop where
  same : Same G H
  gp : G p = none
  gl : G l = none
  dk : ∃ (m : DeckM) (t : Int), m.In G ∧ 0 ≤ t ∧ H p = some (.lst (deckL l m t))
  ls : ∃ ns : List Int, ns.length ≤ 63 ∧ H l = some (.lst (ns.map V.int))
theorem Wd.ne {p l : Addr} {G H : Hp} (W : Wd p l G H) : p ≠ l := by
  obtain ⟨m, t, _, _, h1⟩ := W.dk
  obtain ⟨ns, _, h2⟩ := W.ls
  intro e
  rw [e, h2] at h1
  have e2 : ns.map V.int = deckL l m t := by
    injection (Option.some.inj h1)
  cases ns with
  | nil => cases e2
  | cons n ns =>
    injection e2 with e3
    cases e3
theorem Wd.np {p l : Addr} {G H : Hp} (W : Wd p l G H) {a : Addr} (h : H a = none) : a ≠ p := by
  obtain ⟨_, _, _, _, h1⟩ := W.dk
  intro e
  rw [e, h1] at h
  cases h
theorem Wd.nl {p l : Addr} {G H : Hp} (W : Wd p l G H) {a : Addr} (h : H a = none) : a ≠ l := by
  obtain ⟨_, _, h1⟩ := W.ls
  intro e
  rw [e, h1] at h
  cases h
/-- from one state to a later one: the deck may have been drawn from, G may have grown by new objects -/
structure Ext (p l : Addr) (G H G' H' : Hp) : Prop where
  w : Wd p l G' H'
  sub : Same G G'
  keep : ∀ b o, b ≠ p → b ≠ l → H b = some o → H' b = some o
  new : ∀ b o, H b = some o → G b = none → G' b = none
section
variable {p l : Addr} {G H G1 H1 G2 H2 : Hp}
theorem Ext.refl (W : Wd p l G H) : Ext p l G H G H := ⟨W, Same.refl G, fun _ _ _ _ h => h, fun _ _ _ h => h⟩
theorem Ext.trans (a : Ext p l G H G1 H1) (W : Wd p l G H) (b : Ext p l G1 H1 G2 H2) : Ext p l G H G2 H2 :=
  ⟨b.w, a.sub.trans b.sub, fun c o n1 n2 h => b.keep c o n1 n2 (a.keep c o n1 n2 h), fun c o h g => by
    have g1 := a.new c o h g
    by_cases n1 : c = p
    · subst n1; exact b.w.gp
    · by_cases n2 : c = l
      · subst n2; exact b.w.gl
      · exact b.new c o (a.keep c o n1 n2 h) g1⟩
/-- a new object, kept in G -/
theorem Wd.put (W : Wd p l G H) {a : Addr} {o : HO} (h : H a = none) : Ext p l G H (upd G a o) (upd H a o) := by
  have ga : G a = none := W.same.free h
  have np := W.np h
  have nl := W.nl h
  refine ⟨⟨fun b u q => ?_, by rw [upd_ne np.symm]; exact W.gp, by rw [upd_ne nl.symm]; exact W.gl, ?_, ?_⟩, fun b u q => ?_, fun b u _ _ q => ?_, fun b u q g => ?_⟩
  · by_cases e : b = a
    · subst e; rw [upd_same] at q ⊢; exact q
    · rw [upd_ne e] at q ⊢; exact W.same b u q
  · obtain ⟨m, t, m0, m1, e⟩ := W.dk
    exact ⟨m, t, m0.mono (fun b u q => by rw [upd_ne (ne_of_none q ga)]; exact q), m1, by rw [upd_ne np.symm]; exact e⟩
  · obtain ⟨ns, z, e⟩ := W.ls
    exact ⟨ns, z, by rw [upd_ne nl.symm]; exact e⟩
  · rw [upd_ne (ne_of_none q ga)]; exact q
  · rw [upd_ne (ne_of_none q h)]; exact q
  · rw [upd_ne (ne_of_none q h)]; exact g
/-- a new object, not kept in G -/
theorem Wd.tmp (W : Wd p l G H) {a : Addr} {o : HO} (h : H a = none) : Ext p l G H G (upd H a o) := by
  have ga : G a = none := W.same.free h
  have np := W.np h
  have nl := W.nl h
  refine ⟨⟨fun b u q => ?_, W.gp, W.gl, ?_, ?_⟩, Same.refl G, fun b u _ _ q => ?_, fun b u q g => g⟩
  · rw [upd_ne (ne_of_none q ga)]; exact W.same b u q
  · obtain ⟨m, t, m0, m1, e⟩ := W.dk
    exact ⟨m, t, m0, m1, by rw [upd_ne np.symm]; exact e⟩
  · obtain ⟨ns, z, e⟩ := W.ls
    exact ⟨ns, z, by rw [upd_ne nl.symm]; exact e⟩
  · rw [upd_ne (ne_of_none q h)]; exact q
/-- an object of one's own, not in G, is changed -/
theorem Wd.own (W : Wd p l G H) {a : Addr} {o : HO} (hp : a ≠ p) (hl : a ≠ l) (hg : G a = none) : Wd p l G (upd H a o) := by
  refine ⟨fun b u q => ?_, W.gp, W.gl, ?_, ?_⟩
  · rw [upd_ne (ne_of_none q hg)]; exact W.same b u q
  · obtain ⟨m, t, m0, m1, e⟩ := W.dk
    exact ⟨m, t, m0, m1, by rw [upd_ne hp.symm]; exact e⟩
  · obtain ⟨ns, z, e⟩ := W.ls
    exact ⟨ns, z, by rw [upd_ne hl.symm]; exact e⟩
/-- an object of one's own is kept from now on -/
theorem Wd.hold (W : Wd p l G H) {a : Addr} {o : HO} (hp : a ≠ p) (hl : a ≠ l) (hg : G a = none) (h : H a = some o) : Wd p l (upd G a o) H ∧ Same G (upd G a o) := by
  have sG : Same G (upd G a o) := fun b u q => by
    rw [upd_ne (ne_of_none q hg)]
    exact q
  refine ⟨⟨fun b u q => ?_, by rw [upd_ne hp.symm]; exact W.gp, by rw [upd_ne hl.symm]; exact W.gl, let ⟨m, t, m0, m1, e⟩ := W.dk; ⟨m, t, m0.mono sG, m1, e⟩, W.ls⟩, fun b u q => ?_⟩
  · by_cases e : b = a
    · subst e; rw [upd_same] at q; rw [← q]; exact h
    · rw [upd_ne e] at q; exact W.same b u q
  · rw [upd_ne (ne_of_none q hg)]; exact q
end
end L2.Hx

/-! How long the text of data can be. -/
namespace L2.Hx
open PySem PySem.Spec PyProof.Rows
mutual
def okB : PyData → Bool
  | .none | .bool _ => true
  | .int i => decide (i.natAbs.log2 < 1920)
  | .str x => x.cps.toList.all fun c => decide (c < 1114112)
  | .list xs | .tuple xs => okAll xs
  | .dict kvs => okKv kvs
def okAll : List PyData → Bool
  | [] => true
  | x :: xs => okB x && okAll xs
def okKv : List (PyData × PyData) → Bool
  | [] => true
  | (k, v) :: r => okB k && okB v && okKv r
end
mutual
/-- no less than the signs of its text -/
def siz : PyData → Nat
  | .none | .bool _ => 5
  | .int _ => 1921
  | .str x => 10 * x.length + 2
  | .list xs | .tuple xs => sizAll xs + 3
  | .dict kvs => sizKv kvs + 2
def sizAll : List PyData → Nat
  | [] => 0
  | x :: xs => siz x + 2 + sizAll xs
def sizKv : List (PyData × PyData) → Nat
  | [] => 0
  | (k, v) :: r => siz k + siz v + 4 + sizKv r
end
theorem okAll_of : ∀ {xs : List PyData}, (∀ x ∈ xs, okB x = true) → okAll xs = true
  | [], _ => rfl
  | x :: xs, h => by
    rw [okAll, h x List.mem_cons_self, okAll_of fun y m => h y (List.mem_cons_of_mem _ m)]
    rfl
theorem sizAll_le {n : Nat} : ∀ {xs : List PyData}, (∀ x ∈ xs, siz x ≤ n) → sizAll xs ≤ (n + 2) * xs.length
  | [], _ => by simp [sizAll]
  | x :: xs, h => by
    have h1 := h x List.mem_cons_self
    have h2 := sizAll_le fun y m => h y (List.mem_cons_of_mem x m)
    rw [sizAll, List.length_cons, Nat.mul_add, Nat.mul_one]
    omega
theorem depthAll_le {n : Nat} : ∀ {xs : List PyData}, (∀ x ∈ xs, x.depth ≤ n) → PyData.depthAll xs ≤ n
  | [], _ => by simp [PyData.depthAll]
  | x :: xs, h => by
    have h1 := h x List.mem_cons_self
    have h2 := depthAll_le fun y m => h y (List.mem_cons_of_mem x m)
    rw [PyData.depthAll]
    omega
theorem textFrom0 (ts : List Str) (acc : Str) : (textFrom 0 acc ts).length ≤ acc.length + piled ts := by
  have h := textFrom_len ts 0 acc
  cases ts with
  | nil => exact Nat.le_add_right _ _
  | cons t r =>
    show (textFrom 1 (acc ++ t) r).length ≤ _
    rw [textFrom_length_pos r 1 (acc ++ t) Nat.one_pos, strLen_append, piled_cons]
    omega
theorem listText_le (ts : List Str) : (listText ts).length ≤ piled ts + 2 := by
  have h := textFrom0 ts "["
  unfold listText
  rw [strLen_append]
  have e1 : (("[" : Str)).length = 1 := rfl
  have e2 : (("]" : Str)).length = 1 := rfl
  omega
theorem dictText_le (ts : List Str) : (dictText ts).length ≤ piled ts + 2 := by
  have e1 : (("{" : Str)).length = 1 := rfl
  have e2 : (("}" : Str)).length = 1 := rfl
  unfold dictText
  rw [strLen_append, strLen_append]
  by_cases h : ts = []
  · subst h
    decide +kernel
  · have := join_length_add ts h
    omega
theorem int_len {i : Int} (h : i.natAbs.log2 < 1920) : (Str.ofString (toString i)).length ≤ 1921 := by
  have e := int_text_length_le (k := 1920) (by decide) h
  rw [PySem.ofString_length]
  omega
mutual
theorem ok_show : ∀ {d : PyData}, okB d = true → d.showable = true ∧ d.shown.length ≤ siz d
  | .none, _ => ⟨rfl, by simp only [PyData.shown, siz]; decide⟩
  | .bool b, _ => ⟨rfl, by simp only [PyData.shown, siz]; cases b <;> decide⟩
  | .int i, h => ⟨by simpa [PyData.showable, okB] using h, by simp only [PyData.shown, siz]; exact int_len (by simpa [okB] using h)⟩
  | .str x, h => ⟨rfl, by
      simp only [PyData.shown, siz]
      rw [okB, List.all_eq_true] at h
      exact StrLaws.reprText_len x fun c m => Nat.lt_trans (of_decide_eq_true (h c m)) (by decide)⟩
  | .list xs, h => by
    obtain ⟨a, b⟩ := ok_showAll (xs := xs) (by simpa [okB] using h)
    refine ⟨by simpa [PyData.showable] using a, ?_⟩
    simp only [PyData.shown, siz]
    exact Nat.le_trans (listText_le _) (by omega)
  | .tuple xs, h => by
    obtain ⟨a, b⟩ := ok_showAll (xs := xs) (by simpa [okB] using h)
    refine ⟨by simpa [PyData.showable] using a, ?_⟩
    simp only [PyData.shown, siz]
    exact Nat.le_trans (fmt_text _) (by omega)
  | .dict kvs, h => by
    obtain ⟨a, b⟩ := ok_showKv (kvs := kvs) (by simpa [okB] using h)
    refine ⟨by simpa [PyData.showable] using a, ?_⟩
    simp only [PyData.shown, siz]
    exact Nat.le_trans (dictText_le _) (by omega)
theorem ok_showAll : ∀ {xs : List PyData}, okAll xs = true → PyData.showableAll xs = true ∧ piled (PyData.shownAll xs) ≤ sizAll xs
  | [], _ => ⟨rfl, by simp [PyData.shownAll, piled_nil]⟩
  | x :: xs, h => by
    rw [okAll, Bool.and_eq_true] at h
    obtain ⟨a, b⟩ := ok_show h.1
    obtain ⟨c, d⟩ := ok_showAll h.2
    refine ⟨by rw [PyData.showableAll, a, c]; rfl, ?_⟩
    rw [PyData.shownAll, piled_cons, sizAll]
    omega
theorem ok_showKv : ∀ {kvs : List (PyData × PyData)}, okKv kvs = true → PyData.showableKv kvs = true ∧ piled (PyData.shownKv kvs) ≤ sizKv kvs
  | [], _ => ⟨rfl, by simp [PyData.shownKv, piled_nil]⟩
  | (k, v) :: r, h => by
    rw [okKv, Bool.and_eq_true, Bool.and_eq_true] at h
    obtain ⟨a, b⟩ := ok_show h.1.1
    obtain ⟨a2, b2⟩ := ok_show h.1.2
    obtain ⟨c, d⟩ := ok_showKv h.2
    refine ⟨by rw [PyData.showableKv, a, a2, c]; rfl, ?_⟩
    rw [PyData.shownKv, piled_cons, sizKv, strLen_append, strLen_append]
    have e1 : ((": " : Str)).length = 2 := rfl
    omega
end
/-- data that repr can tell: at most k deep, of a text of at most n signs -/
structure Okd (k n : Nat) (d : PyData) : Prop where
  ok : okB d = true
  dp : d.depth ≤ k
  sz : siz d ≤ n
theorem Okd.mono {k n k2 n2 : Nat} {d : PyData} (h : Okd k n d) (hk : k ≤ k2 := by decide) (hn : n ≤ n2 := by decide) : Okd k2 n2 d := ⟨h.ok, Nat.le_trans h.dp hk, Nat.le_trans h.sz hn⟩
theorem Okd.tup {k n m N : Nat} {ds : List PyData} (h : ∀ d ∈ ds, Okd k n d) (hl : ds.length ≤ m) (hN : (n + 2) * m + 3 ≤ N := by decide) : Okd (k + 1) N (.tuple ds) := by
  refine ⟨okAll_of fun d hd => (h d hd).ok, ?_, ?_⟩
  · have := depthAll_le fun d hd => (h d hd).dp
    simp only [PyData.depth]
    omega
  · have h1 := sizAll_le fun d hd => (h d hd).sz
    have h2 : (n + 2) * ds.length ≤ (n + 2) * m := Nat.mul_le_mul_left _ hl
    show sizAll ds + 3 ≤ N
    omega
theorem Okd.list {k n m N : Nat} {ds : List PyData} (h : ∀ d ∈ ds, Okd k n d) (hl : ds.length ≤ m) (hN : (n + 2) * m + 3 ≤ N := by decide) : Okd (k + 1) N (.list ds) := by
  have a := Okd.tup h hl hN
  exact ⟨a.ok, a.dp, a.sz⟩
theorem Okd.kids {k n : Nat} {ds : List PyData} (h : Okd (k + 1) n (.tuple ds)) : ∀ d ∈ ds, Okd k n d := by
  have h1 : okAll ds = true := h.ok
  have h2 : PyData.depthAll ds ≤ k := by
    have := h.dp
    simp only [PyData.depth] at this
    omega
  have h3 : sizAll ds ≤ n := by
    have := h.sz
    rw [siz] at this
    omega
  clear h
  induction ds with
  | nil => intro d hd; cases hd
  | cons x xs ih =>
    rw [okAll, Bool.and_eq_true] at h1
    rw [PyData.depthAll] at h2
    rw [sizAll] at h3
    intro d hd
    rcases List.mem_cons.mp hd with rfl | hd
    · exact ⟨h1.1, by omega, by omega⟩
    · exact ih h1.2 (by omega) (by omega) d hd
theorem Okd.shown {k n : Nat} {d : PyData} (h : Okd k n d) (hk : k ≤ 60) (hn : n ≤ sizeLine) : d.showable = true ∧ d.depth ≤ 60 ∧ d.shown.length ≤ sizeLine :=
  let ⟨a, b⟩ := ok_show h.ok
  ⟨a, Nat.le_trans h.dp hk, Nat.le_trans b (Nat.le_trans h.sz hn)⟩
end L2.Hx

/-! What a saying is, twice: as the program looks, and as the law does. -/
namespace L2.Hx
open PySem PySem.Spec PyProof.Rows
def w_WORDS : List Str := ["nil", "result", "fun", "head", "foot", "with", "var", "if", "else", "while", "keep", "new", "free", "any", "cell", "list", "empty", "is", "isnt"]
def w_LOOK_WORDS : List Str := ["is", "isnt"]
def w_PART_WORDS : List Str := ["cell", "list"]
def w_nr : List Str := ["nil", "result"]
def abc : List Nat := ("abcdefghijklmnopqrstuvwxyz" : Str).cps.toList
def letters (z : Str) : Bool := z.cps.toList.all fun c => decide (c ∈ abc)
def lenOk (z : Str) : Bool := decide (1 ≤ (z.length : Int)) && decide ((z.length : Int) ≤ 8)
def nameP (d : PyData) : Bool := match d with
  | .str z => lenOk z && (!decide (z ∈ w_WORDS) && letters z)
  | _ => false
def termP (d : PyData) : Bool := inWs d w_nr || nameP d
def termL (d : PyData) : Bool := match d with
  | .str z => lenOk z && (letters z && (decide (z ∈ w_nr) || !decide (z ∈ w_WORDS)))
  | _ => false
theorem term_eq (d : PyData) : termP d = termL d := by
  cases d with
  | str z =>
    by_cases h : z ∈ w_nr
    · rcases List.mem_cons.mp h with e | h2
      · subst e
        decide +kernel
      · rcases List.mem_cons.mp h2 with e | h3
        · subst e
          decide +kernel
        · cases h3
    · have e1 : decide (z ∈ w_nr) = false := decide_eq_false h
      show (decide (z ∈ w_nr) || (lenOk z && (!decide (z ∈ w_WORDS) && letters z))) = (lenOk z && (letters z && (decide (z ∈ w_nr) || !decide (z ∈ w_WORDS))))
      rw [e1, Bool.false_or, Bool.false_or]
      cases lenOk z <;> cases letters z <;> cases decide (z ∈ w_WORDS) <;> rfl
  | _ => rfl
def rowD (ws : List Str) (d : PyData) : Bool := match d with
  | .tuple [a, b, c] => inWs a ws && (termL b && termL c)
  | _ => false
def rowsD (ws : List Str) (most : Int) (d : PyData) : Bool := match d with
  | .tuple ds => decide ((ds.length : Int) ≤ most) && ds.all (rowD ws)
  | _ => false
def clauseD (d : PyData) : Bool := match d with
  | .tuple [a, b] => rowsD w_LOOK_WORDS 30 a && rowsD w_PART_WORDS 8 b
  | _ => false
/-- from the i-th item on -/
def dueFrom (i : Nat) : List PyData → PyData
  | [] => .none
  | d :: ds => if clauseD d then dueFrom (i + 1) ds else .tuple [.str "clause", .int i]
def dueD (d : PyData) : PyData := match d with
  | .tuple ds => if 1 ≤ ds.length ∧ ds.length ≤ 64 then dueFrom 0 ds else .str "form"
  | _ => .str "form"
theorem dueFrom_ok : ∀ (ds : List PyData) (i : Nat), (∀ d ∈ ds, clauseD d = true) → dueFrom i ds = .none
  | [], _, _ => rfl
  | d :: ds, i, h => by
    rw [dueFrom, if_pos (h d List.mem_cons_self)]
    exact dueFrom_ok ds (i + 1) fun e m => h e (List.mem_cons_of_mem _ m)
theorem dueFrom_okd : ∀ (ds : List PyData) (i : Nat), i + ds.length ≤ 100 → Okd 1 5000 (dueFrom i ds)
  | [], i, _ => ⟨rfl, by simp [dueFrom, PyData.depth], by show 5 ≤ 5000; decide⟩
  | d :: ds, i, h => by
    rw [List.length_cons] at h
    rw [dueFrom]
    split
    · exact dueFrom_okd ds (i + 1) (by omega)
    · have h1 : okB (.int (i : Int)) = true := by
        rw [okB]
        refine decide_eq_true ?_
        have h7 : (i : Int).natAbs < 2 ^ 7 := by omega
        exact Nat.lt_trans (PySem.Flt.log2_lt_of (by decide) h7) (by decide)
      have h2 : okB (.str "clause") = true := by decide +kernel
      refine ⟨by rw [okB, okAll, okAll, okAll, h1, h2]; rfl, by simp [PyData.depth, PyData.depthAll], ?_⟩
      show siz (.str "clause") + 2 + (1921 + 2 + 0) + 3 ≤ 5000
      have : siz (.str "clause") = 62 := by decide +kernel
      omega
theorem due_okd (d : PyData) : Okd 1 5000 (dueD d) := by
  have hf : Okd 1 5000 (.str "form") := ⟨by decide +kernel, by simp [PyData.depth], by decide +kernel⟩
  cases d with
  | tuple ds =>
    show Okd 1 5000 (if 1 ≤ ds.length ∧ ds.length ≤ 64 then dueFrom 0 ds else .str "form")
    split
    · exact dueFrom_okd ds 0 (by omega)
    · exact hf
  | _ => exact hf
/-- the size of an item -/
theorem siz_kid {d : PyData} : ∀ {ds : List PyData}, d ∈ ds → siz d ≤ siz (.tuple ds) := by
  intro ds h
  rw [siz]
  induction ds with
  | nil => cases h
  | cons x xs ih =>
    rw [sizAll]
    rcases List.mem_cons.mp h with rfl | h
    · omega
    · have := ih h
      omega
/-- data that the looks take -/
structure Fit (d : PyData) : Prop where
  ok : okB d = true
  sz : siz d ≤ sizeLine
theorem okAll_mem {d : PyData} : ∀ {ds : List PyData}, okAll ds = true → d ∈ ds → okB d = true
  | x :: xs, h, m => by
    rw [okAll, Bool.and_eq_true] at h
    rcases List.mem_cons.mp m with rfl | m
    · exact h.1
    · exact okAll_mem h.2 m
theorem Fit.kid {d : PyData} {ds : List PyData} (h : Fit (.tuple ds)) (m : d ∈ ds) : Fit d :=
  ⟨okAll_mem (show okAll ds = true from h.ok) m, Nat.le_trans (siz_kid m) h.sz⟩
theorem siz_len : ∀ ds : List PyData, ds.length ≤ siz (.tuple ds) := by
  intro ds
  rw [siz]
  induction ds with
  | nil => simp
  | cons x xs ih =>
    rw [sizAll, List.length_cons]
    omega
theorem siz_str (z : Str) : z.length ≤ siz (.str z) := by
  rw [siz]
  omega
end L2.Hx

/-! Expressions that lay data: what they come to, by its size. -/
namespace L2.Hx
open PySem PySem.Spec PyProof.Rows

/-! ### t != () -/
def rNeNil (K : PySem.W.Frag) : R2 := fun x y H Q => ∃ a b xs, x = .ref a ∧ y = .ref b ∧ SqT K H a xs ∧ SqT K H b [] ∧ Q (.bl (!xs.isEmpty)) H
theorem op_neNil {X : Cx} (hu : X.A.units + 64 < cLine) : OpR X (compareOp .NotEq) (rNeNil X.K) := by
  intro pins s σ H x y v u Q I rx ry h
  obtain ⟨a, b, xs, rfl, rfl, ha, hb, q⟩ := h
  cases rx
  cases ry
  obtain ⟨its, r1, p1, _⟩ := I.tuple ha
  obtain ⟨its2, r2, p2, _⟩ := I.tuple hb
  cases r2
  refine SeqAt.RcNeAt.tuples (e := fun _ => true) p1 p2 (by omega) (fun j h1 h2 => absurd h2 (by simp)) _ _ _ _ ⟨.bl _, H, I, rfl, ?_⟩
  have hl := r1.length
  have e : (!((List.range (min its.toArray.size ([] : List Value).toArray.size)).all (fun _ => true) && its.toArray.size == ([] : List Value).toArray.size)) = !xs.isEmpty := by
    cases xs with
    | nil =>
      cases r1
      rfl
    | cons x xs =>
      cases r1
      rfl
  rw [e]
  exact q

/-- all m of at most these depths and sizes -/
def All (k n m : Nat) (ds : List PyData) : Prop := ds.length = m ∧ ∀ d ∈ ds, Okd k n d
/-- a tuple of at most m such -/
def Tp (k n m : Nat) (d : PyData) : Prop := ∃ ds, d = .tuple ds ∧ ds.length ≤ m ∧ ∀ x ∈ ds, Okd k n x
/-- a list of at most m such, not empty -/
def Ls (k n m : Nat) (d : PyData) : Prop := ∃ ds, d = .list ds ∧ 0 < ds.length ∧ ds.length ≤ m ∧ ∀ x ∈ ds, Okd k n x
theorem Tp.okd {k n m N : Nat} {d : PyData} (h : Tp k n m d) (hN : (n + 2) * m + 3 ≤ N := by decide) : Okd (k + 1) N d := by
  obtain ⟨ds, rfl, hl, h⟩ := h
  exact Okd.tup h hl hN
theorem Ls.okd {k n m N : Nat} {d : PyData} (h : Ls k n m d) (hN : (n + 2) * m + 3 ≤ N := by decide) : Okd (k + 1) N d := by
  obtain ⟨ds, rfl, _, hl, h⟩ := h
  exact Okd.list h hl hN
theorem Tp.mono {k n m k2 n2 m2 : Nat} {d : PyData} (h : Tp k n m d) (hk : k ≤ k2 := by decide) (hn : n ≤ n2 := by decide) (hm : m ≤ m2 := by decide) : Tp k2 n2 m2 d := by
  obtain ⟨ds, rfl, hl, h⟩ := h
  exact ⟨ds, rfl, Nat.le_trans hl hm, fun x m => (h x m).mono hk hn⟩
theorem Okd.tp {k n : Nat} {ds : List PyData} (h : Okd (k + 1) n (.tuple ds)) {m : Nat} (hl : ds.length ≤ m) : Tp k n m (.tuple ds) := ⟨ds, rfl, hl, h.kids⟩

section
variable (K : PySem.W.Frag) (p l : Addr) (σ : St) (G : Hp)
/-- whatever the heap, what comes is such data; the deck may be drawn from -/
def TD (t : TE) (φ : PyData → Prop) : Prop := ∀ (G1 H : Hp) (Q : VK), Wd p l G1 H → Same G G1 → (∀ v d G2 H2, Ext p l G1 H G2 H2 → Da K G2 v d → φ d → Q v H2) → t σ H Q
def TDs (t : TA) (Φ : List PyData → Prop) : Prop := ∀ (G1 H : Hp) (Q : List V → Hp → Prop), Wd p l G1 H → Same G G1 → (∀ vs ds G2 H2, Ext p l G1 H G2 H2 → DaAll K G2 vs ds → Φ ds → Q vs H2) → t σ H Q
end
/-- a slice's end -/
def TPt (σ : St) (t : TO) : Prop := ∀ (H : Hp) (Q : Option Int → Hp → Prop), (∀ o, Q o H) → t σ H Q
section
variable {K : PySem.W.Frag} {p l : Addr} {σ : St} {G : Hp} {t ta tb : TE} {tr : TA} {φ ψ : PyData → Prop} {Φ : List PyData → Prop} {k n m : Nat}
theorem TD.imp (h : TD K p l σ G t φ) (hi : ∀ d, φ d → ψ d) : TD K p l σ G t ψ := fun G1 H Q W s k => h G1 H Q W s fun v d G2 H2 e da f => k v d G2 H2 e da (hi d f)
theorem TD.run {H : Hp} {Q : VK} (h : TD K p l σ G t φ) (W : Wd p l G H) (k : ∀ v d G2 H2, Ext p l G H G2 H2 → Da K G2 v d → φ d → Q v H2) : t σ H Q := h G H Q W (Same.refl G) k
theorem TD.asg {H : Hp} {D : Ends} {i : Nat} (h : TD K p l σ G t φ) (W : Wd p l G H) (k : ∀ v d G2 H2, Ext p l G H G2 H2 → Da K G2 v d → φ d → D.nx (σ.set i (some v)) H2) : tAsg t (gName i) D σ H := h G H _ W (Same.refl G) k
theorem TD.asgG {H : Hp} {D : Ends} {g : TG} (h : TD K p l σ G t φ) (W : Wd p l G H) (k : ∀ v d G2 H2, Ext p l G H G2 H2 → Da K G2 v d → φ d → g v σ H2 D.nx) : tAsg t g D σ H := h G H _ W (Same.refl G) k
theorem TD.ret {H : Hp} {D : Ends} (h : TD K p l σ G t φ) (W : Wd p l G H) (k : ∀ v d G2 H2, Ext p l G H G2 H2 → Da K G2 v d → φ d → D.rt v H2) : tRet t D σ H := h G H _ W (Same.refl G) k
theorem TD.flat {v : V} {d : PyData} (hd : ∀ G, Da K G v d) (hf : φ d) : TD K p l σ G (tC v) φ := fun G1 H Q W _ k => k _ _ _ _ (Ext.refl W) (hd _) hf
theorem td_str {x : Str} (h : okB (.str x) = true := by decide +kernel) (hn : siz (.str x) ≤ n := by decide +kernel) : TD K p l σ G (tC (.str x)) (Okd k n) := .flat (fun _ => .str x) ⟨h, Nat.zero_le _, hn⟩
theorem td_int {i : Int} (h : i.natAbs.log2 < 1920 := by decide) (hn : 1921 ≤ n := by decide) : TD K p l σ G (tC (.int i)) (Okd k n) := .flat (fun _ => .int i) ⟨decide_eq_true h, Nat.zero_le _, hn⟩
theorem td_non (hn : 5 ≤ n := by decide) : TD K p l σ G (tC .non) (Okd k n) := .flat (fun _ => .non) ⟨rfl, Nat.zero_le _, hn⟩
theorem td_bl {b : Bool} (hn : 5 ≤ n := by decide) : TD K p l σ G (tC (.bl b)) (Okd k n) := .flat (fun _ => .bl b) ⟨rfl, Nat.zero_le _, hn⟩
theorem td_var {i : Nat} {v : V} {d : PyData} (hi : σ[i]? = some (some v)) (hd : Da K G v d) (hf : φ d) : TD K p l σ G (tVar i) φ := fun G1 H Q W s k => ⟨v, hi, k _ _ _ _ (Ext.refl W) (hd.mono s) hf⟩
theorem tds_nil : TDs K p l σ G tNil (All k n 0) := fun G1 H Q W _ k => k _ _ _ _ (Ext.refl W) .nil ⟨rfl, fun d h => absurd h List.not_mem_nil⟩
theorem tds_cons (h : TD K p l σ G t (Okd k n)) (hr : TDs K p l σ G tr (All k n m)) : TDs K p l σ G (tCons t tr) (All k n (m + 1)) := fun G1 H Q W s k =>
  h G1 H _ W s fun v d G2 H2 e da f => hr G2 H2 _ e.w (s.trans e.sub) fun vs ds G3 H3 e3 das f3 => k _ _ _ _ (e.trans W e3) (.cons (da.mono e3.sub) das)
    ⟨by rw [List.length_cons, f3.1], fun x mx => by
      rcases List.mem_cons.mp mx with rfl | mx
      · exact f
      · exact f3.2 x mx⟩
/-- for arguments of any kinds -/
theorem tds_consP (h : TD K p l σ G t φ) (hr : TDs K p l σ G tr Φ) : TDs K p l σ G (tCons t tr) (fun ds => ∃ d r, ds = d :: r ∧ φ d ∧ Φ r) := fun G1 H Q W s k =>
  h G1 H _ W s fun v d G2 H2 e da f => hr G2 H2 _ e.w (s.trans e.sub) fun vs ds G3 H3 e3 das f3 => k _ _ _ _ (e.trans W e3) (.cons (da.mono e3.sub) das) ⟨d, ds, rfl, f, f3⟩
theorem tds_nilP : TDs K p l σ G tNil (fun ds => ds = []) := fun G1 H Q W _ k => k _ _ _ _ (Ext.refl W) .nil rfl
theorem td_tupP (h : TDs K p l σ G tr Φ) (hz : ∀ ds, Φ ds → ds.length ≤ sizeLine) : TD K p l σ G (tTup tr) (fun d => ∃ ds, d = .tuple ds ∧ Φ ds) := fun G1 H Q W s k =>
  h G1 H _ W s fun vs ds G2 H2 e da f => ⟨by rw [da.length]; exact hz ds f, fun a ha => k _ _ _ _ (e.trans W (e.w.put ha)) (.tup (SqT.of upd_same) (da.mono (e.w.put (o := .tup vs) ha).sub)) ⟨ds, rfl, f⟩⟩
theorem td_tup (h : TDs K p l σ G tr (All k n m)) (hz : m ≤ sizeLine := by decide) : TD K p l σ G (tTup tr) (Tp k n m) :=
  (td_tupP h fun ds f => by rw [f.1]; exact hz).imp fun d ⟨ds, e, f⟩ => ⟨ds, e, Nat.le_of_eq f.1, f.2⟩
theorem td_lst (h : TDs K p l σ G tr (All k n (m + 1))) (hz : m + 1 ≤ sizeLine := by decide) : TD K p l σ G (tLst tr) (Ls k n (m + 1)) := fun G1 H Q W s k =>
  h G1 H _ W s fun vs ds G2 H2 e da f => ⟨by rw [da.length, f.1]; exact hz, fun a ha => k _ _ _ _ (e.trans W (e.w.put ha)) (.lst upd_same (da.mono (e.w.put (o := .lst vs) ha).sub)) ⟨ds, rfl, by rw [f.1]; omega, Nat.le_of_eq f.1, f.2⟩⟩
theorem td_lst0 (hn : 3 ≤ n := by decide) : TD K p l σ G (tLst tNil) (Okd (k + 1) n) := fun G1 H Q W s k => ⟨Nat.zero_le _, fun a ha => k _ _ _ _ (W.put ha) (.lst upd_same .nil) ⟨rfl, by simp [PyData.depth, PyData.depthAll], hn⟩⟩
theorem td_tup0 : TD K p l σ G (tTup tNil) (Tp k n 0) := fun G1 H Q W s k => ⟨Nat.zero_le _, fun a ha => k _ _ _ _ (W.put ha) (.tup (SqT.of upd_same) .nil) ⟨[], rfl, Nat.le_refl _, fun x h => absurd h List.not_mem_nil⟩⟩
theorem td_dict0 (hn : 2 ≤ n := by decide) : TD K p l σ G tDNewK (Okd (k + 1) n) := fun G1 H Q W s k => fun a ha => k _ _ _ _ (W.put ha) (Da.dct (kvs := []) upd_same .nil) ⟨rfl, by simp [PyData.depth, PyData.depthKv], hn⟩
theorem Da.tpI {G : Hp} {v : V} {d : PyData} (h : Da K G v d) (f : Tp k n m d) : ∃ a xs ds, v = .ref a ∧ d = .tuple ds ∧ SqT K G a xs ∧ DaAll K G xs ds ∧ ds.length ≤ m ∧ ∀ x ∈ ds, Okd k n x := by
  obtain ⟨ds, rfl, h1, h2⟩ := f
  cases h with
  | tup a b => exact ⟨_, _, ds, rfl, rfl, a, b, h1, h2⟩
theorem Da.lsI {G : Hp} {v : V} {d : PyData} (h : Da K G v d) (f : Ls k n m d) : ∃ a xs ds, v = .ref a ∧ d = .list ds ∧ G a = some (.lst xs) ∧ DaAll K G xs ds ∧ 0 < ds.length ∧ ds.length ≤ m ∧ ∀ x ∈ ds, Okd k n x := by
  obtain ⟨ds, rfl, h0, h1, h2⟩ := f
  cases h with
  | lst a b => exact ⟨_, _, ds, rfl, rfl, a, b, h0, h1, h2⟩
/-- t + u, tuples -/
theorem td_catA {m2 : Nat} (ha : TD K p l σ G ta (Tp k n m)) (hb : TD K p l σ G tb (Tp k n m2)) (hz : m + m2 ≤ sizeLine := by decide) : TD K p l σ G (tOp (rCatA K) ta tb) (Tp k n (m + m2)) := fun G1 H Q W s k =>
  ha G1 H _ W s fun v d G2 H2 e da f => hb G2 H2 _ e.w (s.trans e.sub) fun u d2 G3 H3 e3 da3 f3 => by
    obtain ⟨a, xs, ds, rfl, rfl, t1, a1, l1, o1⟩ := da.tpI f
    obtain ⟨b, ys, es, rfl, rfl, t2, a2, l2, o2⟩ := da3.tpI f3
    have E := e.trans W e3
    refine ⟨a, b, xs, ys, rfl, rfl, sameT (e3.sub.trans e3.w.same) t1, sameT e3.w.same t2, by rw [a1.length, a2.length]; omega, fun hx => ?_, fun hx hy => ?_, fun hx hy c hc => ?_⟩
    · exact k _ _ _ _ E da3 ⟨es, rfl, by omega, o2⟩
    · exact k _ _ _ _ E (da.mono e3.sub) ⟨ds, rfl, by omega, o1⟩
    · have e4 := e3.w.put (o := .tup (xs ++ ys)) hc
      refine k _ _ _ _ (E.trans W e4) (.tup (SqT.of upd_same) ((a1.mono (e3.sub.trans e4.sub)).append (a2.mono e4.sub))) ⟨ds ++ es, rfl, by rw [List.length_append]; omega, fun x mx => ?_⟩
      rcases List.mem_append.mp mx with mx | mx
      · exact o1 x mx
      · exact o2 x mx
/-- xs + ys, lists -/
theorem td_cat {m2 : Nat} (ha : TD K p l σ G ta (Ls k n m)) (hb : TD K p l σ G tb (Ls k n m2)) (hz : m + m2 ≤ sizeLine := by decide) : TD K p l σ G (tOp rCat ta tb) (Ls k n (m + m2)) := fun G1 H Q W s k =>
  ha G1 H _ W s fun v d G2 H2 e da f => hb G2 H2 _ e.w (s.trans e.sub) fun u d2 G3 H3 e3 da3 f3 => by
    obtain ⟨a, xs, ds, rfl, rfl, t1, a1, z1, l1, o1⟩ := da.lsI f
    obtain ⟨b, ys, es, rfl, rfl, t2, a2, z2, l2, o2⟩ := da3.lsI f3
    have E := e.trans W e3
    refine ⟨a, b, xs, ys, rfl, rfl, (e3.sub.trans e3.w.same) _ _ t1, e3.w.same _ _ t2, by rw [a1.length, a2.length]; omega, fun c hc => ?_⟩
    have e4 := e3.w.put (o := .lst (xs ++ ys)) hc
    refine k _ _ _ _ (E.trans W e4) (.lst upd_same ((a1.mono (e3.sub.trans e4.sub)).append (a2.mono e4.sub))) ⟨ds ++ es, rfl, by rw [List.length_append]; omega, by rw [List.length_append]; omega, fun x mx => ?_⟩
    rcases List.mem_append.mp mx with mx | mx
    · exact o1 x mx
    · exact o2 x mx
/-- t[lo:hi] -/
theorem td_sl {tl th : TO} (ha : TD K p l σ G ta (Tp k n m)) (hl : TPt σ tl) (hh : TPt σ th) : TD K p l σ G (tSl (rSlA K) ta tl th) (Tp k n m) := fun G1 H Q W s k =>
  ha G1 H _ W s fun v d G2 H2 e da f => hl H2 _ fun lo => hh H2 _ fun hi => by
    obtain ⟨a, xs, ds, rfl, rfl, t1, a1, l1, o1⟩ := da.tpI f
    refine ⟨a, xs, rfl, sameT e.w.same t1, fun _ => k _ _ _ _ e da ⟨ds, rfl, l1, o1⟩, fun _ c hc => ?_⟩
    have e4 := e.w.put (o := .tup (cutV xs lo hi)) hc
    refine k _ _ _ _ (e.trans W e4) (.tup (SqT.of upd_same) ((((a1.drop _).take _).mono e4.sub))) ⟨_, rfl, ?_, fun x mx => o1 x (List.mem_of_mem_drop (List.mem_of_mem_take mx))⟩
    rw [List.length_take, List.length_drop]
    omega
theorem tp_none : TPt σ tNoPart := fun H Q h => h none
theorem tp_int {i : Int} : TPt σ (tPart (tC (.int i))) := fun H Q h => ⟨i, rfl, h _⟩
theorem tp_var {i : Nat} {z : Int} (hi : σ[i]? = some (some (.int z))) : TPt σ (tPart (tVar i)) := fun H Q h => ⟨_, hi, _, rfl, h _⟩
theorem tp_add {i : Nat} {z c : Int} (hi : σ[i]? = some (some (.int z))) : TPt σ (tPart (tOp (rI0 fun i j => .int (i + j)) (tVar i) (tC (.int c)))) := fun H Q h => ⟨_, hi, _, _, rfl, rfl, _, rfl, h _⟩
/-- (x,) * c -/
theorem td_rep {c : Int} {N : Nat} (ha : TD K p l σ G ta (fun d => ∃ x, d = .tuple [x] ∧ Okd k n x)) (h2 : 2 ≤ c := by decide) (h3 : c ≤ 1000 := by decide) (hN : c.toNat ≤ N := by decide) : TD K p l σ G (tOp (rRepT K) ta (tC (.int c))) (Tp k n N) := fun G1 H Q W s k =>
  ha G1 H _ W s fun v d G2 H2 e da f => by
    obtain ⟨x, rfl, o1⟩ := f
    cases da with
    | @tup a xs _ t1 a1 =>
      cases a1 with
      | cons b1 b2 =>
        cases b2
        rename_i y
        refine ⟨a, c, [y], rfl, rfl, sameT e.w.same t1, by simp, h2, h3, by simp, fun q hq => ?_⟩
        have e4 := e.w.put (o := .tup (List.replicate c.toNat [y]).flatten) hq
        refine k _ _ _ _ (e.trans W e4) (.tup (SqT.of upd_same) ((DaAll.flat (.cons b1 .nil) c.toNat).mono e4.sub)) ⟨_, rfl, ?_, fun z mz => ?_⟩
        · rw [PyProof.Rows.lm_len_rep_flat]
          simpa using hN
        · rw [List.mem_flatten] at mz
          obtain ⟨r, hr, mz⟩ := mz
          rw [(List.mem_replicate.mp hr).2] at mz
          rw [List.mem_singleton.mp mz]
          exact o1
/-- list(t), t a tuple -/
theorem td_list_of (ha : TD K p l σ G ta (Tp k n m)) {N : Nat} (hN : (n + 2) * m + 3 ≤ N := by decide) :
    TD K p l σ G (tCB (fun xs H Q => ∃ p ys, xs = [.ref p] ∧ (SqL K H p ys ∨ SqT K H p ys) ∧ ∀ l, H l = none → Q (.ref l) (upd H l (.lst ys))) (tCons ta tNil)) (Okd (k + 1) N) := fun G1 H Q W s k =>
  ha G1 H _ W s fun v d G2 H2 e da f => by
    obtain ⟨a, xs, ds, rfl, rfl, t1, a1, l1, o1⟩ := da.tpI f
    refine ⟨a, xs, rfl, .inr (sameT e.w.same t1), fun q hq => ?_⟩
    have e4 := e.w.put (o := .lst xs) hq
    exact k _ _ _ _ (e.trans W e4) (.lst upd_same (a1.mono e4.sub)) (Okd.list o1 l1 hN)
/-- tuple(xs), xs a list -/
theorem td_tuple_of {N : Nat} (ha : TD K p l σ G ta (fun d => ∃ ds, d = .list ds ∧ ds.length ≤ m ∧ ∀ x ∈ ds, Okd k n x)) :
    TD K p l σ G (tCB (fun xs H Q => ∃ p ys, xs = [.ref p] ∧ ((SqL K H p ys ∧ ∀ l, H l = none → Q (.ref l) (upd H l (.tup ys))) ∨ (SqT K H p ys ∧ Q (.ref p) H))) (tCons ta tNil)) (Tp k n m) := fun G1 H Q W s k =>
  ha G1 H _ W s fun v d G2 H2 e da f => by
    obtain ⟨ds, rfl, l1, o1⟩ := f
    cases da with
    | @lst a xs _ t1 a1 =>
      refine ⟨a, xs, rfl, .inl ⟨SqL.of (e.w.same _ _ t1), fun q hq => ?_⟩⟩
      have e4 := e.w.put (o := .tup xs) hq
      exact k _ _ _ _ (e.trans W e4) (.tup (SqT.of upd_same) (a1.mono e4.sub)) ⟨ds, rfl, l1, o1⟩
end
/-! ### comprehensions over a range -/
section
variable (K : PySem.W.Frag) (p l : Addr) (σ : St) (G : Hp)
/-- a range of N turns, N as told; the deck may be drawn from -/
def TW (wi : TI) (ν : Nat → Prop) : Prop := ∀ (G1 H : Hp) (R : It → Hp → Prop), Wd p l G1 H → Same G G1 → (∀ N G2 H2, ν N → Ext p l G1 H G2 H2 → R (Itr 0 N) H2) → wi σ H R
end
/-- a list whose length and items are as told -/
def LsN (ν : Nat → Prop) (φ : PyData → Prop) (d : PyData) : Prop := ∃ ds, d = .list ds ∧ ν ds.length ∧ ∀ x ∈ ds, φ x
section
variable {K : PySem.W.Frag} {p l : Addr} {σ : St} {G : Hp}
theorem set_none {j : Nat} {v : Option V} (σ : St) : ((σ.set j none).set j v).set j none = σ.set j none := by
  rw [List.set_set, List.set_set]
theorem tw_var {i : Nat} {z : Int} (hi : σ[i]? = some (some (.int z))) (h0 : 0 ≤ z) (h1 : z < 1000000) : TW p l σ G (iRng1 (tCons (tVar i) tNil)) (fun N => (N : Int) = z) := fun G1 H R W s k =>
  ⟨_, hi, z, rfl, by omega, by omega, k _ _ _ (by omega) (Ext.refl W)⟩
theorem tw_int {z : Int} (h0 : 0 ≤ z) (h1 : z < 1000000) : TW p l σ G (iRng1 (tCons (tC (.int z)) tNil)) (fun N => (N : Int) = z) := fun G1 H R W s k =>
  ⟨z, rfl, by omega, by omega, k _ _ _ (by omega) (Ext.refl W)⟩
theorem td_lc {wi : TI} {te : TE} {j M : Nat} {ν : Nat → Prop} {φ : PyData → Prop} (hw : TW p l σ G wi ν) (hM : ∀ N, ν N → N ≤ M) (hM2 : M < sizeLine) (he : ∀ i : Nat, TD K p l ((σ.set j none).set j (some (.int (0 + (i : Int))))) G te φ) :
    TD K p l σ G (tLc wi (gName j) tYes te [j]) (LsN ν φ) := fun G1 H Q W s k =>
  hw G1 H _ W s fun N G2 H2 hN e => fun D hD => by
    have nDp := e.w.np hD
    have nDl := e.w.nl hD
    have E1 := e.w.tmp (o := .lst []) hD
    refine lc_range (lo := 0) (n := N) (fun i H3 => ∃ G3 xs ds, Wd p l G3 H3 ∧ Same G2 G3 ∧ G3 D = none ∧ H3 D = some (.lst xs) ∧ DaAll K G3 xs ds ∧ ds.length = i ∧ (∀ x ∈ ds, φ x) ∧
        (∀ b o, b ≠ p → b ≠ l → b ≠ D → H2 b = some o → H3 b = some o) ∧ (∀ b o, H2 b = some o → G2 b = none → G3 b = none))
      ⟨G2, [], [], E1.w, Same.refl _, e.w.same.free hD, upd_same, .nil, rfl, fun x m => absurd m List.not_mem_nil, fun b o n1 n2 n3 q => by rw [upd_ne n3]; exact q, fun b o _ g => g⟩ ?_ ?_
    · rintro i H3 hi ⟨G3, xs, ds, w3, s3, gD, hD3, da3, l3, f3, k3, n3⟩
      refine ⟨set_none σ, ?_⟩
      show te _ _ _
      refine he i G3 H3 _ w3 ((s.trans e.sub).trans s3) fun v d G4 H4 e4 da4 f4 => ?_
      have hD4 : H4 D = some (.lst xs) := e4.keep _ _ nDp nDl hD3
      have gD4 : G4 D = none := e4.new _ _ hD3 gD
      refine ⟨xs, hD4, by rw [da3.length, l3]; exact Nat.lt_of_lt_of_le hi (Nat.le_trans (hM N hN) (Nat.le_of_lt hM2)), G4, xs ++ [v], ds ++ [d], e4.w.own nDp nDl gD4, s3.trans e4.sub, gD4, upd_same, (da3.mono e4.sub).append (.cons da4 .nil),
        by rw [List.length_append, l3]; rfl, fun x m => ?_, fun b o n1 n2 n4 q => ?_, fun b o q g => ?_⟩
      · rcases List.mem_append.mp m with m | m
        · exact f3 x m
        · rw [List.mem_singleton.mp m]
          exact f4
      · rw [upd_ne n4]
        exact e4.keep _ _ n1 n2 (k3 b o n1 n2 n4 q)
      · have g3 := n3 b o q g
        by_cases b1 : b = p
        · subst b1
          exact e4.w.gp
        · by_cases b2 : b = l
          · subst b2
            exact e4.w.gl
          · exact e4.new b o (k3 b o b1 b2 (ne_of_none q hD) q) g3
    · rintro H3 ⟨G3, xs, ds, w3, s3, gD, hD3, da3, l3, f3, k3, n3⟩
      obtain ⟨w4, s4⟩ := w3.hold nDp nDl gD hD3
      have E2 : Ext p l G2 H2 (upd G3 D (.lst xs)) H3 := ⟨w4, s3.trans s4, fun b o n1 n2 q => k3 b o n1 n2 (ne_of_none q hD) q, fun b o q g => by
        rw [upd_ne (ne_of_none q hD)]
        exact n3 b o q g⟩
      exact k _ _ _ _ (e.trans W E2) (.lst upd_same (da3.mono s4)) ⟨ds, rfl, by rw [l3]; exact hN, f3⟩
/-- tuple(xs), xs a list as told -/
theorem td_tupleN {ta : TE} {ν : Nat → Prop} {φ : PyData → Prop} (ha : TD K p l σ G ta (LsN ν φ)) :
    TD K p l σ G (tCB (fun xs H Q => ∃ p ys, xs = [.ref p] ∧ ((SqL K H p ys ∧ ∀ l, H l = none → Q (.ref l) (upd H l (.tup ys))) ∨ (SqT K H p ys ∧ Q (.ref p) H))) (tCons ta tNil)) (fun d => ∃ ds, d = .tuple ds ∧ ν ds.length ∧ ∀ x ∈ ds, φ x) := fun G1 H Q W s k =>
  ha G1 H _ W s fun v d G2 H2 e da f => by
    obtain ⟨ds, rfl, l1, o1⟩ := f
    cases da with
    | @lst a xs _ t1 a1 =>
      refine ⟨a, xs, rfl, .inl ⟨SqL.of (e.w.same _ _ t1), fun q hq => ?_⟩⟩
      have e4 := e.w.put (o := .tup xs) hq
      exact k _ _ _ _ (e.trans W e4) (.tup (SqT.of upd_same) (a1.mono e4.sub)) ⟨ds, rfl, l1, o1⟩
theorem td_tupO {tr : TA} {k n m k2 N : Nat} (h : TDs K p l σ G tr (All k n m)) (hN : (n + 2) * m + 3 ≤ N := by decide) (hk : k + 1 ≤ k2 := by decide) (hz : m ≤ sizeLine := by decide) : TD K p l σ G (tTup tr) (Okd k2 N) :=
  (td_tup h hz).imp fun d f => (f.okd hN).mono hk (Nat.le_refl _)
theorem td_tup0O {k n : Nat} (hk : 1 ≤ k := by decide) (hn : 3 ≤ n := by decide) : TD K p l σ G (tTup tNil) (Okd k n) := td_tup0.imp fun d (f : Tp 0 0 0 d) => (f.okd (N := 3)).mono hk hn
theorem td_tpO {t : TE} {k n m k2 N : Nat} (h : TD K p l σ G t (Tp k n m)) (hN : (n + 2) * m + 3 ≤ N := by decide) (hk : k + 1 ≤ k2 := by decide) : TD K p l σ G t (Okd k2 N) := h.imp fun d f => (f.okd hN).mono hk (Nat.le_refl _)
end
end L2.Hx

/-! list(zip(xs, ys)), two lists of one length. -/
namespace L2.Zx
open PySem PySem.Spec PyProof.Rows
abbrev ZipF (h : Heap) (z TI TO a : Addr) (f : Bool) : Prop :=
  h.get? z = some { cls := .type "zip", dict := none, data := .fields #[rawInt a, .bool f, .bool false, .ref TI, .ref TO], slots := #[] }
section
variable {prog : Program} {w : World} {A : Around} {E : Value → Shared → Prop} {s : Shared}
theorem owned_out {z TI TO a : Addr} {f : Bool} {oa : Obj} {Q : Bool → Shared → Prop} (hz : ZipF s.heap z TI TO a f) (ha : s.heap.get? a = some oa)
    (hQ : ∀ h₃, ZipF h₃ z TI TO a true → Heap.SameBut z s.heap h₃ → Q false { s with heap := h₃ }) : wpAny (model prog w) A (Builtin.SmallTypes.ownedTupleIsFree (.ref z)) Q E s := by
  unfold Builtin.SmallTypes.ownedTupleIsFree
  refine wpAny_bind (wpAny_field hz rfl (x := rawInt a) rfl ?_)
  show wpAny _ _ (loadIfAlive ((a : Int).toNat) >>= _) _ _ _
  rw [Int.toNat_natCast]
  refine wpAny_bind (PySem.W.kdx_alive ha ?_)
  simp only [Option.isNone_some, Bool.false_eq_true, if_false]
  refine wpAny_bind (wpAny_field hz rfl (x := .bool f) rfl ?_)
  cases f with
  | true =>
    rw [if_neg (show ¬ ((Value.bool true != Value.bool true) = true) from Bool.false_ne_true)]
    exact wpAny_pure (hQ s.heap hz (Heap.SameBut.refl _ _))
  | false =>
    rw [if_pos (show (Value.bool false != Value.bool true) = true from rfl)]
    refine wpAny_bind (wpAny_setField_rec hz (by simp) fun h₃ hz₃ hs₃ => ?_)
    exact wpAny_pure (hQ h₃ hz₃ hs₃)
theorem next_out {z TI TO i1 i2 l1 l2 a : Addr} {f : Bool} {oa : Obj} {k : Nat} {xs ys : Array Value} {x y : Value} {Q : Option Value → Shared → Prop} (D : ZipApart z TI TO i1 i2 l1 l2)
    (hz : ZipF s.heap z TI TO a f) (ha : s.heap.get? a = some oa) (hTI : IsPair s.heap TI (.ref i1) (.ref i2))
    (h1 : s.heap.IsListIter i1 l1 k) (h2 : s.heap.IsListIter i2 l2 k) (hl1 : s.heap.IsList l1 xs) (hl2 : s.heap.IsList l2 ys) (hx : xs[k]? = some x) (hy : ys[k]? = some y)
    (hQ : ∀ h', ZipF h' z TI TO a true → h'.IsListIter i1 l1 (k + 1) → h'.IsListIter i2 l2 (k + 1) → IsPair h' s.heap.objs.size x y → h'.objs.size = s.heap.objs.size + 1 →
      (∀ c o, c ≠ z → c ≠ i1 → c ≠ i2 → s.heap.get? c = some o → h'.get? c = some o) → Q (some (.ref s.heap.objs.size)) { s with heap := h' }) :
    wpAny (model prog w) A (pyNext (.ref z)) Q E s := by
  have hT : s.TypeIs (.ref z) "zip" := ⟨_, hz, rfl⟩
  unfold pyNext
  refine wpAny_bind (wpAny_attempt (wpAny_callSpecial?_slot (name := Str.ofString "__next__") hT F.slot_zip_next
    (wpAny_call_entry F.slot_zip_next hT F.entry_zip_next ?_ (F.args_zip_next_1 _))))
  show wpAny _ _ (field (.ref z) 2 >>= _) _ _ _
  refine wpAny_bind (wpAny_field hz rfl (x := .bool false) rfl ?_)
  show wpAny _ _ (field (.ref z) 3 >>= _) _ _ _
  refine wpAny_bind (wpAny_field hz rfl (x := .ref TI) rfl ?_)
  refine wpAny_bind (wpAny_seqItems hTI rfl ?_)
  show wpAny _ _ (Builtin.SmallTypes.ownedTupleIsFree (.ref z) >>= _) _ _ _
  refine wpAny_bind (owned_out hz ha fun h₃ hz₃ hs₃ => ?_)
  simp only [Bool.false_eq_true, if_false]
  rw [← Array.forIn_toList]
  simp only [List.forIn_cons, List.forIn_nil]
  refine wpAny_bind ?_
  refine wpAny_bind ?_
  refine wpAny_bind (wpAny_holding ?_)
  show wpAny _ _ (Builtin.SmallTypes.nextOf (.ref i1) >>= _) _ _ _
  refine wpAny_bind (wpAny_nextOf_list_item (h1.extBut hs₃.extBut D.i1z) (hl1.extBut hs₃.extBut D.l1z) hx fun h₄ h1₄ hs₄ => wpAny_pure ?_)
  refine wpAny_pure ?_
  dsimp only
  refine wpAny_bind ?_
  refine wpAny_bind (wpAny_holding ?_)
  show wpAny _ _ (Builtin.SmallTypes.nextOf (.ref i2) >>= _) _ _ _
  refine wpAny_bind (wpAny_nextOf_list_item ((h2.extBut hs₃.extBut D.i2z).extBut hs₄.extBut D.i12.symm) ((hl2.extBut hs₃.extBut D.l2z).extBut hs₄.extBut D.l2i1) hy fun h₅ h2₅ hs₅ => wpAny_pure ?_)
  refine wpAny_pure ?_
  dsimp only
  refine wpAny_pure ?_
  dsimp only
  refine wpAny_bind (wpAny_newTuple (hsz := by show 2 ≤ sizeLine; decide) ?_)
  have up : ∀ c o, c ≠ z → c ≠ i1 → c ≠ i2 → s.heap.get? c = some o → h₅.get? c = some o := fun c o c1 c2 c3 e => hs₅.extBut _ _ c3 (hs₄.extBut _ _ c2 (hs₃.extBut _ _ c1 e))
  have hsz : h₅.objs.size = s.heap.objs.size := by rw [hs₅.1, hs₄.1, hs₃.1]
  refine wpAny_pure ⟨_, rfl, wpAny_pure ?_⟩
  show Q (some (.ref h₅.objs.size)) _
  have hz₅ : ZipF h₅ z TI TO a true := hs₅.extBut _ _ D.i2z.symm (hs₄.extBut _ _ D.i1z.symm hz₃)
  have h1₅ : h₅.IsListIter i1 l1 (k + 1) := h1₄.extBut hs₅.extBut D.i12
  have hT₆ : IsPair (h₅.push { cls := .type "tuple", data := .seq #[x, y] }) h₅.objs.size x y := Heap.get?_push_size _ rfl
  rw [hsz] at hT₆ ⊢
  refine hQ _ (Heap.get?_push_of_some _ hz₅) (h1₅.at fun o e => Heap.get?_push_of_some _ e) (h2₅.at fun o e => Heap.get?_push_of_some _ e) hT₆ (by rw [Heap.size_push, hsz]) fun c o c1 c2 c3 e => Heap.get?_push_of_some _ (up c o c1 c2 c3 e)
theorem end_out {z TI TO i1 i2 l1 l2 a : Addr} {f : Bool} {oa : Obj} {k : Nat} {xs : Array Value} {Q : Option Value → Shared → Prop} (hh : A.handled = none) (D : ZipApart z TI TO i1 i2 l1 l2)
    (hz : ZipF s.heap z TI TO a f) (ha : s.heap.get? a = some oa) (hTI : IsPair s.heap TI (.ref i1) (.ref i2))
    (h1 : s.heap.IsListIter i1 l1 k) (hl1 : s.heap.IsList l1 xs) (hx : xs[k]? = none)
    (hQ : ∀ h', (∀ c o, c ≠ z → c ≠ i1 → s.heap.get? c = some o → h'.get? c = some o) → Q none { s with heap := h' }) :
    wpAny (model prog w) A (pyNext (.ref z)) Q E s := by
  have hT : s.TypeIs (.ref z) "zip" := ⟨_, hz, rfl⟩
  unfold pyNext
  refine wpAny_bind (wpAny_attempt (wpAny_callSpecial?_slot (name := Str.ofString "__next__") hT F.slot_zip_next
    (wpAny_call_entry F.slot_zip_next hT F.entry_zip_next ?_ (F.args_zip_next_1 _))))
  show wpAny _ _ (field (.ref z) 2 >>= _) _ _ _
  refine wpAny_bind (wpAny_field hz rfl (x := .bool false) rfl ?_)
  show wpAny _ _ (field (.ref z) 3 >>= _) _ _ _
  refine wpAny_bind (wpAny_field hz rfl (x := .ref TI) rfl ?_)
  refine wpAny_bind (wpAny_seqItems hTI rfl ?_)
  show wpAny _ _ (Builtin.SmallTypes.ownedTupleIsFree (.ref z) >>= _) _ _ _
  refine wpAny_bind (owned_out hz ha fun h₃ hz₃ hs₃ => ?_)
  simp only [Bool.false_eq_true, if_false]
  rw [← Array.forIn_toList]
  simp only [List.forIn_cons, List.forIn_nil]
  refine wpAny_bind ?_
  refine wpAny_bind ?_
  refine wpAny_bind (wpAny_holding ?_)
  show wpAny _ _ (Builtin.SmallTypes.nextOf (.ref i1) >>= _) _ _ _
  refine wpAny_bind (wpAny_nextOf_list_end hh (h1.extBut hs₃.extBut D.i1z) (hl1.extBut hs₃.extBut D.l1z) hx fun h₄ e hs₄ he => ?_)
  obtain ⟨oe, hoe, hce⟩ := he
  refine wpAny_bind (wpAny_isInstance (T := "StopIteration") (b := true) ⟨oe, hoe, hce⟩ isSubtype_stop ?_)
  exact wpAny_pure (hQ _ fun c o c1 c2 e => hs₄ _ _ c2 (hs₃.extBut _ _ c1 e))
/-- the zip at its k-th pair; S is the list that is made, as the tuples handed out -/
structure St (h : Heap) (z TI TO i1 i2 l1 l2 S : Addr) (xs ys : Array Value) (k : Nat) : Prop where
  own : IsZip h z TI TO .none ∨ ∃ a f oa, ZipF h z TI TO a f ∧ h.get? a = some oa ∧ S < a
  ti : IsPair h TI (.ref i1) (.ref i2)
  to : ∃ a b, IsPair h TO a b
  h1 : h.IsListIter i1 l1 k
  h2 : h.IsListIter i2 l2 k
  hl1 : h.IsList l1 xs
  hl2 : h.IsList l2 ys
/-- all of a zip below S -/
structure Low (z TI TO i1 i2 l1 l2 S : Addr) : Prop where
  z : z < S
  ti : TI < S
  to : TO < S
  i1 : i1 < S
  i2 : i2 < S
  l1 : l1 < S
  l2 : l2 < S
theorem St.keep {h h' : Heap} {z TI TO i1 i2 l1 l2 S : Addr} {xs ys : Array Value} {k : Nat} (L : Low z TI TO i1 i2 l1 l2 S) (x : St h z TI TO i1 i2 l1 l2 S xs ys k) (hk : ∀ b o, b ≠ S → h.get? b = some o → h'.get? b = some o) : St h' z TI TO i1 i2 l1 l2 S xs ys k := by
  have n : ∀ {b : Addr}, b < S → b ≠ S := fun h => Nat.ne_of_lt h
  refine ⟨?_, hk _ _ (n L.ti) x.ti, ?_, x.h1.at fun o e => hk _ o (n L.i1) e, x.h2.at fun o e => hk _ o (n L.i2) e, x.hl1.at fun o e => hk _ o (n L.l1) e, x.hl2.at fun o e => hk _ o (n L.l2) e⟩
  · rcases x.own with e | ⟨a, f, oa, e, ea, lt⟩
    · exact .inl (hk _ _ (n L.z) e)
    · exact .inr ⟨a, f, oa, hk _ _ (n L.z) e, hk _ _ (Nat.ne_of_gt lt) ea, lt⟩
  · obtain ⟨a, b, e⟩ := x.to
    exact ⟨a, b, hk _ _ (n L.to) e⟩
theorem item {z TI TO i1 i2 l1 l2 S : Addr} {k : Nat} {xs ys : Array Value} {x y : Value} {Q : Option Value → Shared → Prop} (D : ZipApart z TI TO i1 i2 l1 l2) (L : Low z TI TO i1 i2 l1 l2 S) (hst : St s.heap z TI TO i1 i2 l1 l2 S xs ys k) (hS : S < s.heap.objs.size)
    (hx : xs[k]? = some x) (hy : ys[k]? = some y)
    (hQ : ∀ h', St h' z TI TO i1 i2 l1 l2 S xs ys (k + 1) → IsPair h' s.heap.objs.size x y → (∀ b o, S ≤ b → s.heap.get? b = some o → h'.get? b = some o) → (∀ b o, b ≠ z → b ≠ TO → b ≠ i1 → b ≠ i2 → s.heap.get? b = some o → h'.get? b = some o) → Q (some (.ref s.heap.objs.size)) { s with heap := h' }) :
    wpAny (model prog w) A (pyNext (.ref z)) Q E s := by
  have g : ∀ {b c : Addr}, b < S → S ≤ c → c ≠ b := fun h1 h2 => Nat.ne_of_gt (Nat.lt_of_lt_of_le h1 h2)
  rcases hst.own with e | ⟨a, f, oa, e, ea, lt⟩
  · obtain ⟨a, b, eo⟩ := hst.to
    refine wpAny_pyNext_zip_item D e hst.ti eo hst.h1 hst.h2 hst.hl1 hst.hl2 hx hy fun h' z1 z2 z3 z4 z5 z6 z7 => ?_
    have up : ∀ b o, b ≠ z → b ≠ TO → b ≠ i1 → b ≠ i2 → s.heap.get? b = some o → h'.get? b = some o := fun b o c1 c2 c3 c4 e => z7 b o c1 c2 c3 c4 e
    exact hQ h' ⟨.inr ⟨_, false, _, z1, z5, hS⟩, up _ _ D.TIz D.TITO D.TIi1 D.TIi2 hst.ti, ⟨_, _, z2⟩, z3, z4, hst.hl1.at fun o e => up _ o D.l1z D.l1TO D.l1i1 D.l1i2 e, hst.hl2.at fun o e => up _ o D.l2z D.l2TO D.l2i1 D.l2i2 e⟩ z5 (fun b o lb e => up b o (g L.z lb) (g L.to lb) (g L.i1 lb) (g L.i2 lb) e) up
  · refine next_out D e ea hst.ti hst.h1 hst.h2 hst.hl1 hst.hl2 hx hy fun h' z1 z3 z4 z5 z6 z7 => ?_
    obtain ⟨b1, b2, eo⟩ := hst.to
    have up : ∀ b o, b ≠ z → b ≠ TO → b ≠ i1 → b ≠ i2 → s.heap.get? b = some o → h'.get? b = some o := fun b o c1 _ c3 c4 e => z7 b o c1 c3 c4 e
    exact hQ h' ⟨.inr ⟨_, true, _, z1, z7 _ _ (g L.z (Nat.le_of_lt lt)) (g L.i1 (Nat.le_of_lt lt)) (g L.i2 (Nat.le_of_lt lt)) ea, lt⟩, z7 _ _ D.TIz D.TIi1 D.TIi2 hst.ti, ⟨_, _, z7 _ _ D.TOz D.TOi1 D.TOi2 eo⟩, z3, z4, hst.hl1.at fun o e => z7 _ o D.l1z D.l1i1 D.l1i2 e, hst.hl2.at fun o e => z7 _ o D.l2z D.l2i1 D.l2i2 e⟩ z5 (fun b o lb e => up b o (g L.z lb) (g L.to lb) (g L.i1 lb) (g L.i2 lb) e) up
theorem done {z TI TO i1 i2 l1 l2 S : Addr} {k : Nat} {xs ys : Array Value} {Q : Option Value → Shared → Prop} (hh : A.handled = none) (D : ZipApart z TI TO i1 i2 l1 l2) (hst : St s.heap z TI TO i1 i2 l1 l2 S xs ys k) (hx : xs[k]? = none)
    (hQ : ∀ h', (∀ b o, b ≠ z → b ≠ TO → b ≠ i1 → b ≠ i2 → s.heap.get? b = some o → h'.get? b = some o) → Q none { s with heap := h' }) : wpAny (model prog w) A (pyNext (.ref z)) Q E s := by
  rcases hst.own with e | ⟨a, f, oa, e, ea, lt⟩
  · obtain ⟨a, b, eo⟩ := hst.to
    exact wpAny_pyNext_zip_end hh D e hst.ti eo hst.h1 hst.h2 hst.hl1 hst.hl2 (.inl hx) fun h' k => hQ h' k
  · exact end_out hh D e ea hst.ti hst.h1 hst.hl1 hx fun h' k => hQ h' fun b o c1 _ c3 _ e => k b o c1 c3 e
/-- the tuples made -/
structure Made (xs ys : Array Value) (lo : Addr) (h : Heap) (as : List Addr) : Prop where
  rise : as.Pairwise (· < ·)
  above : ∀ a ∈ as, lo < a
  pairs : ∀ (j : Nat) (a : Addr), as[j]? = some a → ∃ x y, xs[j]? = some x ∧ ys[j]? = some y ∧ IsPair h a x y
theorem Made.there {xs ys : Array Value} {lo : Addr} {h : Heap} {as : List Addr} (g : Made xs ys lo h as) {a : Addr} (ha : a ∈ as) : a < h.objs.size := by
  obtain ⟨j, hj⟩ := List.mem_iff_getElem?.mp ha
  obtain ⟨_, _, _, _, e⟩ := g.pairs j a hj
  exact Heap.lt_size e
theorem loop {R : Result → Shared → Prop} {z TI TO i1 i2 l1 l2 S : Addr} {xs ys : Array Value} {n : Nat} (hh : A.handled = none) (D : ZipApart z TI TO i1 i2 l1 l2) (L : Low z TI TO i1 i2 l1 l2 S) (n1 : xs.size = n) (n2 : ys.size = n) (hn : n ≤ sizeLine) (res : Value) {h₁ : Heap}
    (hR : ∀ h' tk acc c as, (∀ b o, b ≠ S → b ≠ z → b ≠ TO → b ≠ i1 → b ≠ i2 → h₁.get? b = some o → h'.get? b = some o) → h'.get? S = some { cls := .type "list", dict := none, data := .seq acc c, slots := #[] } → as.length = n → Made xs ys S h' as →
      acc.toList = as.map Value.ref → R (.ok (.ret res)) { s with heap := h', toks := tk }) :
    ∀ (k i : Nat) (h : Heap) (tk c : Nat) (acc : Array Value) (as : List Addr), n - i = k → i ≤ n → St h z TI TO i1 i2 l1 l2 S xs ys i → (∀ b o, b ≠ S → b ≠ z → b ≠ TO → b ≠ i1 → b ≠ i2 → h₁.get? b = some o → h.get? b = some o) →
      h.get? S = some { cls := .type "list", dict := none, data := .seq acc c, slots := #[] } → acc.toList = as.map Value.ref → as.length = i → Made xs ys S h as →
      codeAny (model prog w) A (.builtin "list.extend.loop" ⟨[.ref S, .ref z, res], []⟩) R { s with heap := h, toks := tk } := by
  have nz : S ≠ z := Nat.ne_of_gt L.z
  have nto : S ≠ TO := Nat.ne_of_gt L.to
  have ni1 : S ≠ i1 := Nat.ne_of_gt L.i1
  have ni2 : S ≠ i2 := Nat.ne_of_gt L.i2
  intro k
  induction k with
  | zero =>
    intro i h tk c acc as hk hi hst hkeep hS hacc hal hG
    have hin : i = n := by omega
    refine codeAny_builtin PySem.F.entry_extend_loop ?_
    rw [Around.under_plainId PySem.F.plain_extend_loop _]
    show wpAny _ A.in1 (pyNext (.ref z) >>= _) _ _ _
    refine wpAny_bind (done (s := { s with heap := h, toks := tk }) (A := A.in1) hh D hst (Array.getElem?_eq_none (by omega)) fun h' he => ?_)
    refine wpAny_pure (hR h' tk acc c as (fun b o h0 h1 h2 h3 h4 e => he b o h1 h2 h3 h4 (hkeep b o h0 h1 h2 h3 h4 e)) (he S _ nz nto ni1 ni2 hS) (by omega) ⟨hG.rise, hG.above, fun j a hj => ?_⟩ hacc)
    obtain ⟨x, y, e1, e2, e3⟩ := hG.pairs j a hj
    have la := hG.above a (List.mem_of_getElem? hj)
    have g : ∀ {b : Addr}, b < S → a ≠ b := fun h => Nat.ne_of_gt (Nat.lt_trans h la)
    exact ⟨x, y, e1, e2, he a _ (g L.z) (g L.to) (g L.i1) (g L.i2) e3⟩
  | succ k ih =>
    intro i h tk c acc as hk hi hst hkeep hS hacc hal hG
    have hlt : i < n := by omega
    obtain ⟨x, hx⟩ : ∃ p, xs[i]? = some p := ⟨xs[i], Array.getElem?_eq_getElem (by omega)⟩
    obtain ⟨y, hy⟩ : ∃ p, ys[i]? = some p := ⟨ys[i], Array.getElem?_eq_getElem (by omega)⟩
    have hsz : acc.size = i := by rw [← Array.length_toList, hacc, List.length_map, hal]
    have hSl : S < h.objs.size := Heap.lt_size hS
    refine codeAny_builtin PySem.F.entry_extend_loop ?_
    rw [Around.under_plainId PySem.F.plain_extend_loop _]
    show wpAny _ A.in1 (pyNext (.ref z) >>= _) _ _ _
    refine wpAny_bind (item (s := { s with heap := h, toks := tk }) (S := S) D L hst hSl hx hy fun h' hst' ht hge hkp => ?_)
    dsimp only at ht hge hkp ⊢
    have hS' := hge S _ (Nat.le_refl _) hS
    have up : ∀ b o, b ≠ S → h'.get? b = some o → (h'.update S (Obj.mapSeq (·.push (Value.ref h.objs.size)))).get? b = some o := fun b o hb e => (Heap.get?_update_other _ _ (Ne.symm hb)).trans e
    show wpAny _ A.in1 (updateSeq S (·.push (Value.ref h.objs.size)) >>= _) _ _ _
    refine wpAny_bind ?_
    refine wpAny_updateSeq hS' rfl (wpAny_pure ⟨plainId_quiet PySem.F.plain_extend_loop _, ih (i + 1) _ tk _ (acc.push (Value.ref h.objs.size)) (as ++ [h.objs.size]) (by omega) hlt (hst'.keep L up)
      (fun b o h0 h1 h2 h3 h4 e => up b o h0 (hkp b o h1 h2 h3 h4 (hkeep b o h0 h1 h2 h3 h4 e))) (Heap.get?_update_self _ hS' rfl) (by rw [Array.toList_push, hacc, List.map_append]; rfl) (by rw [List.length_append, hal]; rfl) ⟨?_, ?_, ?_⟩⟩) (by rw [hsz]; omega) (by show (acc.push (Value.ref h.objs.size)).size ≤ sizeLine + 1; rw [Array.size_push, hsz]; omega)
    · refine List.pairwise_append.mpr ⟨hG.rise, List.pairwise_singleton _ _, fun a ha b hb => ?_⟩
      rw [List.mem_singleton.mp hb]
      exact hG.there ha
    · intro a ha
      rcases List.mem_append.mp ha with ha | ha
      · exact hG.above a ha
      · rw [List.mem_singleton.mp ha]
        exact hSl
    · intro j b hj
      rcases Nat.lt_trichotomy j as.length with h1 | h1 | h1
      · rw [List.getElem?_append_left h1] at hj
        obtain ⟨x', y', e1, e2, e3⟩ := hG.pairs j b hj
        have hb := hG.above b (List.mem_of_getElem? hj)
        exact ⟨x', y', e1, e2, up b _ (Nat.ne_of_gt hb) (hge b _ (Nat.le_of_lt hb) e3)⟩
      · subst h1
        have hb : h.objs.size = b := by simpa using hj
        subst hb
        exact ⟨x, y, by rw [hal]; exact hx, by rw [hal]; exact hy, up _ _ (Nat.ne_of_gt hSl) ht⟩
      · have hnone : (as ++ [h.objs.size])[j]? = none := List.getElem?_eq_none (by rw [List.length_append, List.length_singleton]; omega)
        rw [hnone] at hj
        cases hj
end
theorem zip_no_len : typeLookup (.type "zip") "__len__" = pure none := by rw [typeLookup_type, builtinLookup_eq_fast]; kernel_rfl
theorem zip_no_hint : typeLookup (.type "zip") "__length_hint__" = pure none := by rw [typeLookup_type, builtinLookup_eq_fast]; kernel_rfl
section
variable {prog : Program} {w : World} {A : Around} {E : Value → Shared → Prop} {s : Shared} {z TI TO i1 i2 l1 l2 : Addr} {xs ys : Array Value} {n : Nat}
theorem extend {R : Result → Shared → Prop} {S : Addr} (hh : A.handled = none) (D : ZipApart z TI TO i1 i2 l1 l2) (L : Low z TI TO i1 i2 l1 l2 S) (n1 : xs.size = n) (n2 : ys.size = n) (hn : n ≤ sizeLine) (hst : St s.heap z TI TO i1 i2 l1 l2 S xs ys 0) (hz : IsZip s.heap z TI TO .none)
    (res : Value) (c₀ : Nat) (hS : s.heap.get? S = some { cls := .type "list", data := .seq #[] c₀ })
    (hR : ∀ h' tk acc c as, (∀ b o, b ≠ S → b ≠ z → b ≠ TO → b ≠ i1 → b ≠ i2 → s.heap.get? b = some o → h'.get? b = some o) → h'.get? S = some { cls := .type "list", dict := none, data := .seq acc c, slots := #[] } → as.length = n → Made xs ys S h' as →
      acc.toList = as.map Value.ref → R (.ok (.ret res)) { s with heap := h', toks := tk }) :
    wpAny (model prog w) A.in1 (Builtin.List.listExtendWith (.ref S) (.ref z) res)
      (fun fin s' => match fin with | .done f => R (.ok f) s' | .again c' => c'.quiet = true ∧ codeAny (model prog w) A c' R s') (fun e s' => R (.error e) s') s := by
  have hT : s.TypeIs (.ref z) "zip" := ⟨_, hz, rfl⟩
  have nz : S ≠ z := Nat.ne_of_gt L.z
  have key : ∀ (h : Heap) (c₁ : Nat), (∀ b o, b ≠ S → s.heap.get? b = some o → h.get? b = some o) → h.get? S = some { cls := .type "list", data := .seq #[] c₁ } →
      codeAny (model prog w) A (.builtin "list.extend.loop" ⟨[.ref S, .ref z, res], []⟩) R { s with heap := h, toks := s.toks } := by
    intro h c₁ hk hS₁
    exact loop (s := s) (h₁ := s.heap) hh D L n1 n2 hn res hR n 0 h s.toks c₁ #[] [] (Nat.sub_zero _) (Nat.zero_le _) (hst.keep L hk) (fun b o h0 _ _ _ _ e => hk b o h0 e) hS₁ rfl rfl
      ⟨List.Pairwise.nil, (fun _ ha => nomatch ha), (fun j a hj => by simp at hj)⟩
  unfold Builtin.List.listExtendWith
  refine wpAny_bind (wpAny_typeOf (T := "zip") hT ?_)
  have h1 : Builtin.List.listSameRef (.ref S) (.ref z) = false := by simp [Builtin.List.listSameRef, nz]
  have h2 : (Value.type "zip" == Value.type "list") = false := by decide
  have h3 : (Value.type "zip" == Value.type "tuple") = false := by decide
  simp only [h1, h2, h3, Bool.or_false, Bool.false_eq_true, if_false]
  refine wpAny_bind (wpAny_pyIter_zip hz ?_)
  refine wpAny_bind (wpAny_holding ?_)
  unfold Builtin.List.listLengthHint
  refine wpAny_bind (wpAny_specialOf hT zip_no_len ?_)
  show wpAny _ A.in1 (specialOf (Value.ref z) (Str.ofString "__length_hint__") >>= _) _ _ _
  refine wpAny_bind (wpAny_specialOf hT zip_no_hint ?_)
  refine wpAny_pure ?_
  refine wpAny_ite_split (fun _ => ?_) (fun _ => wpAny_pure ⟨plainId_quiet PySem.F.plain_extend_loop _, key _ c₀ (fun b o _ e => e) hS⟩)
  refine wpAny_bind (wpAny_rule ?_)
  refine wpAny_bind ?_
  show wpAny _ _ (updateSeq S (·.push .none) >>= fun _ => updateSeq S (·.pop)) _ _ _
  refine wpAny_bind (wpAny_updateSeq hS rfl ?_)
  have hS₂ := Heap.get?_update_self (Obj.mapSeq (·.push Value.none)) hS rfl
  refine wpAny_updateSeq (hz := by seq_fits) hS₂ rfl ?_
  have hS₃ := Heap.get?_update_self (Obj.mapSeq (·.pop)) hS₂ rfl
  refine wpAny_pure ⟨plainId_quiet PySem.F.plain_extend_loop _, key _ _ (fun b o hb e => ?_) hS₃⟩
  exact (Heap.get?_update_other _ _ (Ne.symm hb)).trans ((Heap.get?_update_other _ _ (Ne.symm hb)).trans e)
theorem init {R : Result → Shared → Prop} {S : Addr} (hh : A.handled = none) (D : ZipApart z TI TO i1 i2 l1 l2) (L : Low z TI TO i1 i2 l1 l2 S) (n1 : xs.size = n) (n2 : ys.size = n) (hn : n ≤ sizeLine) (hst : St s.heap z TI TO i1 i2 l1 l2 S xs ys 0) (hz : IsZip s.heap z TI TO .none)
    (hS : s.heap.get? S = some { cls := .type "list", data := .seq #[] })
    (hR : ∀ h' tk acc c as, (∀ b o, b ≠ S → b ≠ z → b ≠ TO → b ≠ i1 → b ≠ i2 → s.heap.get? b = some o → h'.get? b = some o) → h'.get? S = some { cls := .type "list", dict := none, data := .seq acc c, slots := #[] } → as.length = n → Made xs ys S h' as →
      acc.toList = as.map Value.ref → R (.ok (.ret .none)) { s with heap := h', toks := tk }) :
    wpAny (model prog w) A.in1 (Builtin.«list.__init__» ⟨[.ref S, .ref z], []⟩)
      (fun fin s' => match fin with | .done f => R (.ok f) s' | .again c' => c'.quiet = true ∧ codeAny (model prog w) A c' R s') (fun e s' => R (.error e) s') s := by
  show wpAny _ _ (do let old ← Builtin.List.listItems (.ref S); Builtin.List.listUpdate (.ref S) (fun _ => #[]); letGo old.toList.reverse; Builtin.List.listExtendWith (.ref S) (.ref z) .none) _ _ s
  refine wpAny_bind ?_
  unfold Builtin.List.listItems
  refine wpAny_bind (wpAny_seqItems hS rfl (wpAny_pure ?_))
  show wpAny _ _ (updateSeq S (fun _ => #[]) >>= fun _ => letGo (#[] : Array Value).toList.reverse >>= fun _ => Builtin.List.listExtendWith (.ref S) (.ref z) .none) _ _ s
  refine wpAny_bind (wpAny_updateSeq hS rfl ?_)
  have hS₂ := Heap.get?_update_self (Obj.mapSeq (fun _ => (#[] : Array Value))) hS rfl
  have oth : ∀ b o, b ≠ S → s.heap.get? b = some o → (s.heap.update S (Obj.mapSeq (fun _ => (#[] : Array Value)))).get? b = some o :=
    fun b o hb e => (Heap.get?_update_other _ _ (Ne.symm hb)).trans e
  refine wpAny_bind (wpAny_letGo ?_)
  refine extend hh D L n1 n2 hn (hst.keep L oth) (oth _ _ (Nat.ne_of_lt L.z) hz) .none _ hS₂ fun h' tk acc c as hk hS' hl hG hacc => ?_
  exact hR h' tk acc c as (fun b o h0 h1 h2 h3 h4 e => hk b o h0 h1 h2 h3 h4 (oth b o h0 e)) hS' hl hG hacc
theorem call_list {Q : Value → Shared → Prop} (hh : A.handled = none) (D : ZipApart z TI TO i1 i2 l1 l2) (L : Low z TI TO i1 i2 l1 l2 s.heap.objs.size) (n1 : xs.size = n) (n2 : ys.size = n) (hn : n ≤ sizeLine) (hst : St s.heap z TI TO i1 i2 l1 l2 s.heap.objs.size xs ys 0) (hz : IsZip s.heap z TI TO .none)
    (hQ : ∀ h' tk acc c as, (∀ b o, b ≠ z → b ≠ TO → b ≠ i1 → b ≠ i2 → s.heap.get? b = some o → h'.get? b = some o) → h'.get? s.heap.objs.size = some { cls := .type "list", dict := none, data := .seq acc c, slots := #[] } → as.length = n → Made xs ys s.heap.objs.size h' as →
      acc.toList = as.map Value.ref → Q (.ref s.heap.objs.size) { s with heap := h', toks := tk }) :
    wpAny (model prog w) A (call (.type "list") [.ref z]) Q E s := by
  refine callType_codes (Q₁ := fun obj s₁ => obj = .ref s.heap.objs.size ∧ s₁ = { s with heap := s.heap.push { cls := .type "list", data := .seq #[] } }) PySem.F.called_list (PySem.F.typeCall_list_1 _) PySem.F.entry_list_init
    (code_list_new _ ⟨rfl, rfl⟩) fun obj s₁ h₁ => ?_
  obtain ⟨rfl, rfl⟩ := h₁
  have hS : (s.heap.push { cls := .type "list", data := .seq #[] }).get? s.heap.objs.size = some { cls := .type "list", data := .seq #[] } := Heap.get?_push_size _ rfl
  refine ⟨⟨_, hS, rfl⟩, PySem.F.args_list_init_2 _ _, init (A := A.in1) hh D L n1 n2 hn (hst.keep L fun b o _ e => Heap.get?_push_of_some _ e) (Heap.get?_push_of_some _ hz) hS (fun h' tk acc c as hk hS' hl hG hacc => ?_)⟩
  exact ⟨rfl, hQ h' tk acc c as (fun b o h1 h2 h3 h4 e => hk b o (Nat.ne_of_lt (Heap.lt_size e)) h1 h2 h3 h4 (Heap.get?_push_of_some _ e)) hS' hl hG hacc⟩
end
/-- the tuples tracked at their addresses -/
def putT : Hp → List Addr → List (V × V) → Hp
  | H, a :: as, p :: kvs => putT (upd H a (.tup [p.1, p.2])) as kvs
  | H, _, _ => H
theorem putT_off {b : Addr} : ∀ (as : List Addr) (kvs : List (V × V)) (H : Hp), b ∉ as → putT H as kvs b = H b
  | [], _, _, _ => rfl
  | _ :: _, [], _, _ => rfl
  | a :: as, p :: kvs, H, h => by
    show putT (upd H a (.tup [p.1, p.2])) as kvs b = H b
    rw [putT_off as kvs _ (fun z => h (List.mem_cons_of_mem _ z)), upd_ne (fun z => h (by rw [z]; exact List.mem_cons_self))]
theorem putT_at : ∀ (as : List Addr) (kvs : List (V × V)) (H : Hp), as.length = kvs.length → as.Nodup → Paired (fun (t : Addr) (p : V × V) => putT H as kvs t = some (.tup [p.1, p.2])) as kvs
  | [], [], _, _, _ => .nil
  | [], _ :: _, _, h, _ => by cases h
  | _ :: _, [], _, h, _ => by cases h
  | a :: as, p :: kvs, H, h, hn => by
    have hn' := List.nodup_cons.mp hn
    have ih := putT_at as kvs (upd H a (.tup [p.1, p.2])) (Nat.succ.inj h) hn'.2
    refine .cons ?_ ih
    show putT (upd H a (.tup [p.1, p.2])) as kvs a = some (.tup [p.1, p.2])
    rw [putT_off as kvs _ hn'.1, upd_same]
theorem laid {X : Cx} {pins : List (Addr × Obj)} {σ : L2.St} {H : Hp} {s : Shared} {h' : Heap} {tk : Nat} {vs us : List V} {xs ys : List Value} {acc : Array Value} {c : Nat} {as : List Addr} {S : Addr} (I : Inv X pins σ H s) (lS : s.heap.objs.size ≤ S) (hz : vs.length ≤ sizeLine) (le : vs.length = us.length) (rv : Vals vs xs) (ru : Vals us ys)
    (hk : ∀ b o, s.heap.get? b = some o → h'.get? b = some o) (hS : h'.get? S = some { cls := .type "list", dict := none, data := .seq acc c, slots := #[] }) (hl : as.length = vs.length) (hG : Made xs.toArray ys.toArray S h' as) (hacc : acc.toList = as.map Value.ref) :
    ∃ H' : Hp, (∀ b o, H b = some o → H' b = some o) ∧ H S = none ∧ (∀ t ∈ as, H t = none) ∧ S ∉ as ∧ H' S = some (.lst (as.map V.ref)) ∧ Paired (fun (t : Addr) (q : V × V) => H' t = some (.tup [q.1, q.2])) as (vs.zip us) ∧ Inv X pins σ H' { s with heap := h', toks := tk } := by
  have hSn : S ∉ as := fun z => Nat.lt_irrefl _ (hG.above _ z)
  have nd : as.Nodup := List.Pairwise.imp (fun {a b} (h : a < b) => Nat.ne_of_lt h) hG.rise
  have new : ∀ t ∈ as, H t = none := fun t ht => I.hok.fresh (Nat.le_trans lS (Nat.le_of_lt (hG.above t ht)))
  have newS : H S = none := I.hok.fresh lS
  have atP := putT_at as (vs.zip us) (upd H S (.lst (as.map V.ref))) (by rw [List.length_zip]; omega) nd
  have off : ∀ b, b ∉ as → b ≠ S → putT (upd H S (.lst (as.map V.ref))) as (vs.zip us) b = H b := fun b h1 h2 => by rw [putT_off as (vs.zip us) _ h1, upd_ne h2]
  have low : ∀ b o, s.heap.get? b = some o → b ∉ as ∧ b ≠ S := fun b o e => ⟨fun z => absurd (Nat.lt_of_lt_of_le (Heap.lt_size e) lS) (Nat.not_lt.mpr (Nat.le_of_lt (hG.above b z))), Nat.ne_of_lt (Nat.lt_of_lt_of_le (Heap.lt_size e) lS)⟩
  have kp : ∀ b u, H b = some u → (putT (upd H S (.lst (as.map V.ref))) as (vs.zip us)) b = some u := fun b u e => by
    rw [off b (fun z => by rw [new b z] at e; cases e) (fun z => by rw [z, newS] at e; cases e)]
    exact e
  have eS : putT (upd H S (.lst (as.map V.ref))) as (vs.zip us) S = some (.lst (as.map V.ref)) := by rw [putT_off as (vs.zip us) _ hSn, upd_same]
  refine ⟨putT (upd H S (.lst (as.map V.ref))) as (vs.zip us), kp, newS, new, hSn, eS, atP, ?_⟩
  refine I.call' (ch := []) rfl ⟨fun b o q _ _ _ => hk b o q, fun b o q _ _ _ => ⟨o.slots, hk b o q⟩, fun b o q n _ => ?_, fun b o q _ => ⟨o, hk b o q⟩, fun b xs q => kp b _ q, fun b o u q => kp b _ q, fun b ps q => ⟨#[], by rw [kp b _ q]; simp⟩⟩ (fun b u q => ?_) I.bare fun b z => by simp at z
  · obtain ⟨z1, z2⟩ := low b o q
    rw [off b z1 z2]
    exact n
  · by_cases hb : b ∈ as
    · obtain ⟨j, pk, e1, e2, e3⟩ := LiI.paired_ix atP hb
      rw [e3] at q
      cases q
      obtain ⟨x, y, f1, f2, f3⟩ := hG.pairs j b e1
      obtain ⟨g1, g2⟩ := List.getElem?_zip_eq_some.mp e2
      obtain ⟨x', m1, m2⟩ := rv.get g1
      obtain ⟨y', m3, m4⟩ := ru.get g2
      have ex : x' = x := by
        rw [List.getElem?_toArray, m1] at f1
        exact Option.some.inj f1
      have ey : y' = y := by
        rw [List.getElem?_toArray, m3] at f2
        exact Option.some.inj f2
      subst ex ey
      exact ⟨by show 2 ≤ sizeLine; decide, [x', y'], .cons m2 (.cons m4 .nil), ⟨_, f3, rfl, _, rfl⟩⟩
    · by_cases hb2 : b = S
      · rw [hb2] at q ⊢
        rw [eS] at q
        cases q
        refine ⟨by rw [List.length_map]; omega, acc.toList, c, by rw [hacc]; exact LiI.vals_refs as, ?_⟩
        rw [Array.toArray_toList]
        exact hS
      · rw [off b hb hb2] at q
        exact (I.hok b u q).stay (fun d v _ y => hk d v y) (fun d y => kp d _ y) fun d xs y => kp d _ y
def rListZip (K : PySem.W.Frag) : List V → Hp → VK → Prop := fun zs H Q => ∃ (a b : Addr) (vs us : List V), zs = [.ref a, .ref b] ∧ SqL K H a vs ∧ SqL K H b us ∧ vs.length = us.length ∧
  ∀ (H' : Hp) (p : Addr) (ts : List Addr), (∀ b o, H b = some o → H' b = some o) → H p = none → (∀ t ∈ ts, H t = none) → p ∉ ts → H' p = some (.lst (ts.map V.ref)) → Paired (fun (t : Addr) (q : V × V) => H' t = some (.tup [q.1, q.2])) ts (vs.zip us) → Q (.ref p) H'
def tListZip (K : PySem.W.Frag) (ta : TA) : TE := fun σ H Q => ta σ H fun zs H1 => rListZip K zs H1 Q
/-- list(zip(xs, ys)) -/
theorem pe_listZip {X : Cx} {e e2 : Expr} {ta : TA} {p pz pz2 pos : Pos} (hc : X.calm = true) (hg : Gl X "list") (hm : X.mg "list" = none) (hgz : Gl X "zip") (hmz : X.mg "zip" = none) (ha : PA X [e, e2] ta) (hv : bootBuiltins "list" = some (.type "list") := by rfl)
    (hs : starEach [e, e2] X.env = (false, eval e X.env) :: starEach [e2] X.env := by rfl) (hpl : (backTo pz2 (starEach [e2] X.env)).any (·.1) = false := by rfl)
    (hs1 : starEach [.Call (.Name "zip" pz) [e, e2] [] pz2] X.env = (false, eval (.Call (.Name "zip" pz) [e, e2] [] pz2) X.env) :: starEach [] X.env := by rfl) :
    PE X (.Call (.Name "list" p) [.Call (.Name "zip" pz) [e, e2] [] pz2] [] pos) (tListZip X.K ta) := by
  refine ⟨fun pins s σ H Q I hq => ?_⟩
  refine wpAny_Call_Name_kw (ld_blt I hg hm hv ?_)
  refine PyProof.Rows.callWith_type1 ?_ hs1 rfl
  rw [hs1]
  show wpAny _ _ (spliced ((false, eval (.Call (.Name "zip" pz) [e, e2] [] pz2) X.env) :: backTo pos (starEach [] X.env))) _ _ s
  refine Calls.spliced_cons ?_
  refine Call_ (ld_blt I hgz hmz PyProof.Rows.boot_zip (PyProof.Rows.callWith_type1 (thn (ha.run pz2 pins s σ H _ I hq) fun us s1 ⟨vs, H1, I1, r1, q1⟩ => ?_) hs hpl))
  obtain ⟨a, b, xs, ys, ex, hqx, hqy, hlen, q⟩ := q1
  subst ex
  cases r1 with
  | cons r rr =>
    cases rr with
    | cons r' rr =>
      cases rr
      cases r
      cases r'
      obtain ⟨its, rv, p1, z1⟩ := I1.list hqx
      obtain ⟨its2, rv2, p2, _⟩ := I1.list hqy
      have la : a < s1.heap.objs.size := p1.lt
      have lb : b < s1.heap.objs.size := p2.lt
      have n1 := rv.length
      have n2 := rv2.length
      refine call_zip_2 p1.isList p2.isList fun h' hz hTI hTO h1 h2 hsz hk => ?_
      refine Calls.spliced_nil ?_
      have L : Low (s1.heap.objs.size + 4) (s1.heap.objs.size + 2) (s1.heap.objs.size + 3) s1.heap.objs.size (s1.heap.objs.size + 1) a b h'.objs.size := by
        rw [hsz]
        exact ⟨Nat.add_lt_add_left (by decide) _, Nat.add_lt_add_left (by decide) _, Nat.add_lt_add_left (by decide) _, Nat.lt_add_of_pos_right (by decide), Nat.add_lt_add_left (by decide) _, Nat.lt_of_lt_of_le la (Nat.le_add_right _ _), Nat.lt_of_lt_of_le lb (Nat.le_add_right _ _)⟩
      refine call_list (s := { s1 with heap := h' }) (n := xs.length) (xs := its.toArray) (ys := its2.toArray) (I1.ok.hd hc) (PySem.W.ktu_apart s1.heap.objs.size a b la lb) L (by rw [List.size_toArray]; omega) (by rw [List.size_toArray]; omega) z1
        ⟨.inl hz, hTI, ⟨_, _, hTO⟩, h1, h2, p1.isList.at fun o e => hk _ o e, p2.isList.at fun o e => hk _ o e⟩ hz fun h2' tk acc c as hk2 hS hl hG hacc => ?_
      have old : ∀ c o, s1.heap.get? c = some o → h2'.get? c = some o := fun c o e => by
        have lc := Heap.lt_size e
        exact hk2 c o (Nat.ne_of_lt (Nat.lt_of_lt_of_le lc (Nat.le_add_right _ _))) (Nat.ne_of_lt (Nat.lt_of_lt_of_le lc (Nat.le_add_right _ _))) (Nat.ne_of_lt lc) (Nat.ne_of_lt (Nat.lt_of_lt_of_le lc (Nat.le_add_right _ _))) (hk c o e)
      obtain ⟨H', k1, k2, k3, k4, k5, k6, J⟩ := laid (tk := tk) I1 (by show s1.heap.objs.size ≤ h'.objs.size; rw [hsz]; exact Nat.le_add_right _ _) z1 hlen rv rv2 old hS hl hG hacc
      exact ⟨.ref _, H', J, rfl, q H' _ as k1 k2 k3 k4 k5 k6⟩
end L2.Zx

/-! Tuples that are known to be of the plain kind, and dict(t) of a tuple of pairs. -/
namespace L2.Hx
open PySem PySem.Spec PyProof.Rows
def PlO (o : Obj) : Prop := o.cls = .type "tuple" ∧ o.dict = none
def PlT (H : Hp) (a : Addr) (xs : List V) : Prop := ∃ o, PlO o ∧ H a = some (.frz o (.tup xs))
theorem PlT.sqT {K : PySem.W.Frag} {H : Hp} {a : Addr} {xs : List V} (h : PlT H a xs) : SqT K H a xs := by
  obtain ⟨o, _, e⟩ := h
  exact .inl (.inr ⟨o, e⟩)
theorem PlT.same {G H : Hp} {a : Addr} {xs : List V} (s : Same G H) (h : PlT G a xs) : PlT H a xs := by
  obtain ⟨o, p, e⟩ := h
  exact ⟨o, p, s _ _ e⟩
def tTupP (t : TA) : TE := fun σ H Q => t σ H fun xs H1 => xs.length ≤ sizeLine ∧ ∀ p o, PlO o → H1 p = none → Q (.ref p) (upd H1 p (.frz o (.tup xs)))
section
variable {X : Cx}
theorem pe_tupP {es : List Expr} {pos : Pos} {t : TA} {x1} (h : PA X es t) : PE X (.Tuple es x1 pos) (tTupP t) := by
  refine ⟨fun pins s σ H Q I hq => ?_⟩
  refine wpAny_Tuple_spliced (thn (h.run pos pins s σ H _ I hq) fun us s1 ⟨xs, H1, I1, r, z, q⟩ => ⟨by rw [← r.length]; exact z, ?_⟩)
  have hf : H1 s1.heap.objs.size = none := I1.hok.fresh (Nat.le_refl _)
  refine ⟨.ref s1.heap.objs.size, _, I1.laid (t' := s1.toks) (o := .frz { cls := .type "tuple", data := .seq us.toArray } (.tup xs)) (fun b u e => Heap.get?_push_of_some _ e) (Nat.le_refl _) ?_, rfl, q _ _ ⟨rfl, rfl⟩ hf⟩
  exact ⟨Heap.get?_push_size _ rfl, z, us, r, ⟨_, Heap.get?_push_size _ rfl, rfl, _, rfl⟩⟩
theorem call_tuple_ofP : CallR X (.type "tuple") (fun xs H Q => ∃ p ys, xs = [.ref p] ∧ SqL X.K H p ys ∧ ∀ l o, PlO o → H l = none → Q (.ref l) (upd H l (.frz o (.tup ys)))) := by
  intro pins s σ H xs us Q I r h
  obtain ⟨p, ys, rfl, hq, q⟩ := h
  obtain ⟨u, rfl, rx⟩ := vals1 r
  cases rx
  obtain ⟨its, r', pl, hz⟩ := I.list hq
  have hlen := r'.length
  refine call_tuple_list pl.isList (fun h' kp => ?_) (by simp only [List.size_toArray] <;> omega)
  have I1 : Inv X pins σ H { s with heap := h' } := I.kept (t' := s.toks) kp
  have I2 : Inv X pins σ (upd H h'.objs.size (.frz { cls := .type "tuple", data := .seq its.toArray } (.tup ys))) { s with heap := h'.push { cls := .type "tuple", data := .seq its.toArray } } :=
    I1.laid (t' := s.toks) (fun b o e => Heap.get?_push_of_some _ e) (Nat.le_refl _) (show ObjOk X.prog X.w _ _ _ (.frz _ (.tup ys)) from ⟨Heap.get?_push_size _ rfl, hz, its, r', IsTup.new _ _⟩)
  exact ⟨.ref h'.objs.size, _, I2, rfl, q _ _ ⟨rfl, rfl⟩ (I1.hok.fresh (Nat.le_refl _))⟩
/-- t + u, none of both empty -/
def rCatP (K : PySem.W.Frag) : R2 := fun x y H Q => ∃ a b xs ys, x = .ref a ∧ y = .ref b ∧ SqT K H a xs ∧ SqT K H b ys ∧ xs ≠ [] ∧ ys ≠ [] ∧ xs.length + ys.length ≤ sizeLine ∧ ∀ p o, PlO o → H p = none → Q (.ref p) (upd H p (.frz o (.tup (xs ++ ys))))
theorem op_catP : OpR X (binaryOp .Add) (rCatP X.K) := by
  intro pins s σ H x y v u Q I rx ry h
  obtain ⟨a, b, xs, ys, rfl, rfl, ha, hb, hx, hy, hz, q⟩ := h
  cases rx
  cases ry
  obtain ⟨its, r1, p1, _⟩ := I.tuple ha
  obtain ⟨its2, r2, p2, _⟩ := I.tuple hb
  refine HT.cat_tup p1 p2 (fun z => hx (r1.nil_iff.mp z)) (fun z => absurd (r2.nil_iff.mp z) hy) (fun z => ?_) (by rw [← r1.length, ← r2.length]; exact hz)
  refine ⟨.ref s.heap.objs.size, _, I.laid (t' := s.toks) (o := .frz { cls := .type "tuple", data := .seq (its ++ its2).toArray } (.tup (xs ++ ys))) (fun b ob q => Heap.get?_push_of_some _ q) (Nat.le_refl _) ?_, rfl, q _ _ ⟨rfl, rfl⟩ (I.hok.fresh (Nat.le_refl _))⟩
  exact ⟨Heap.get?_push_size _ rfl, by rw [List.length_append]; exact hz, _, r1.append r2, IsTup.new _ _⟩
theorem pairs_v {pins : List (Addr × Obj)} {σ : L2.St} {H : Hp} {s : Shared} (I : Inv X pins σ H s) : ∀ {ps : List Addr} {kvs : List (Key × V)}, Paired (fun p kv => SqT X.K H p [kV kv.1, kv.2]) ps kvs →
    ∃ (prs : List (Key × Value)) (vvs : List (Value × Value)), KV kvs prs ∧ prs.length = ps.length ∧ vvs.length = ps.length ∧ ∀ (j : Nat) (k v : Value), vvs[j]? = some (k, v) → ∃ (b : Addr) (key : Key), ps[j]? = some b ∧ IsTup s.heap b #[k, v] ∧ prs[j]? = some (key, v) ∧ keyIs key k = true
  | _, _, .nil => ⟨[], [], .nil, rfl, rfl, fun j k v e => by simp at e⟩
  | _, _, .cons (a := p) (b := kv) h t => by
    obtain ⟨prs, vvs, r, hl, hl2, hp⟩ := pairs_v I t
    obtain ⟨its, rv, ht, _⟩ := I.tuple h
    obtain ⟨u, y, ei, ru, ry⟩ := vals2 rv
    subst ei
    refine ⟨(kv.1, y) :: prs, (u, y) :: vvs, .cons ⟨rfl, ry⟩ r, by rw [List.length_cons, List.length_cons, hl], by rw [List.length_cons, List.length_cons, hl2], fun j k v e => ?_⟩
    cases j with
    | zero =>
      have e' : (u, y) = (k, v) := Option.some.inj e
      cases e'
      exact ⟨p, kv.1, rfl, ht, rfl, kV_is (P := X.prog) (w := X.w) ru⟩
    | succ j =>
      obtain ⟨b, key, e1, e2, e3, e4⟩ := hp j k v (by simpa using e)
      exact ⟨b, key, by simpa using e1, e2, by simpa using e3, e4⟩
/-- dict(t), t a plain tuple of pairs -/
def rDictT (K : PySem.W.Frag) : List V → Hp → VK → Prop := fun xs H Q => ∃ (a : Addr) (ps : List Addr) (kvs : List (Key × V)), xs = [.ref a] ∧ PlT H a (ps.map V.ref) ∧ Paired (fun p kv => SqT K H p [kV kv.1, kv.2]) ps kvs ∧
  ∀ p, H p = none → Q (.ref p) (upd H p (.dK (mergeK [] kvs)))
theorem call_dictPT (hcalm : X.calm = true) : CallR X (.type "dict") (rDictT X.K) := by
  intro pins s σ H xs us Q I r q
  obtain ⟨a, ps, kvs, ex, ⟨ob, ⟨oc, od⟩, ha⟩, hp, q⟩ := q
  subst ex
  obtain ⟨u, eu, rx⟩ := vals1 r
  subst eu
  cases rx
  obtain ⟨e, hz, its, rv, o2, ho2, hc2, n, hd2⟩ := I.hok a _ ha
  have eo : ob = o2 := by
    rw [e] at ho2
    exact Option.some.inj ho2
  subst eo
  have ei := refs_at rv
  subst ei
  rw [List.length_map] at hz
  obtain ⟨prs, vvs, rel, hl, hl2, hpr⟩ := pairs_v I hp
  refine PySem.call_dict_pairs (knd := mixKind X.prog X.w) (kvs := prs) (PairArg.tuple a (ps.map Value.ref).toArray (fun j => ps.getD j 0) vvs) (I.ok.hd hcalm) ⟨⟨ob, n, e, oc, od, hd2⟩, by rw [List.size_toArray, List.length_map, hl2], fun j k v hj => ?_⟩ ⟨by rw [hl, hl2], fun i key v hv => ?_⟩ (by rw [hl2]; exact hz) fun h' tk hd' hk => ?_
  · obtain ⟨b, key, e1, e2, e3, e4⟩ := hpr j k v hj
    have eb : ps.getD j 0 = b := by rw [List.getD_eq_getElem?_getD, e1]; rfl
    refine ⟨?_, .inl ?_⟩
    · show _ = some (Value.ref (ps.getD j 0))
      rw [List.getElem?_toArray, List.getElem?_map, e1, eb]
      rfl
    · show s.heap.IsTuple (ps.getD j 0) _
      rw [eb]
      exact e2
  · obtain ⟨b, kk, e1, e2, e3, e4⟩ := hpr i key v hv
    exact ⟨kk, e3, e4⟩
  · have hm : (s.heap.objs.size == sysModules) = false := beq_eq_false_iff_ne.mpr (Nat.ne_of_gt I.big)
    have hlen : (mergeK [] kvs).length ≤ sizeLine := by
      refine Nat.le_trans (length_mergeK kvs []) ?_
      rw [List.length_nil, Nat.zero_add, rel.length, hl]
      exact hz
    exact ⟨.ref s.heap.objs.size, upd H s.heap.objs.size (.dK (mergeK [] kvs)), I.laid (t' := tk) (fun b o e => hk b o List.not_mem_nil e) (Nat.le_refl _) (show ObjOk X.prog X.w _ _ _ (.dK (mergeK [] kvs)) from ⟨hlen, hm, merged [] prs, KV.merge rel .nil, hd'⟩), rfl, q _ (I.hok.fresh (Nat.le_refl _))⟩
end
/-- a def by the names of its parameters, in any order: g puts them in order -/
theorem pe_kwg {X : Cx} {k j : Nat} {x : Str} {ps ks : List Str} {sp : Sp} {p pos : Pos} {kws : List Keyword} {tk : TA} {g : {α : Type} → List α → List α} (F : ∃ f fd, FnG X.prog X.w X.K X.mg X.base CX0 k f fd ps sp ∧ X.mg x = some (.ref f) ∧ PySem.W.keepIn X.K (.ref f) = true ∧ KwBinds X.K fd ps ks g) (hgd : X.A.guards = some []) (hr : Room j X.A) (hkw : PK X kws tk)
    (hrel : ∀ {zs : List V} {ws : List Value}, Vals zs ws → Vals (g zs) (g ws)) (hj : k ≤ j := by first | exact Nat.le_refl _ | decide)
    (hg : Gl X x := by rfl) (hall : (backToKw pos (keywordEach kws X.env)).all (·.1.isSome) = true := by rfl) (hks : (backToKw pos (keywordEach kws X.env)).filterMap (·.1) = ks := by rfl) (hdb : (x == ("__debug__" : Str)) = false := by decide)
    (hpl : ((backTo pos (starEach [] X.env)).any (·.1) || (backToKw pos (keywordEach kws X.env)).any (·.1.isNone)) = false := by rfl) :
    PE X (.Call (.Name x p) [] kws pos) (tKw sp g ps.length E0 tk) := by
  obtain ⟨f, fd, a, b, c, d⟩ := F
  exact pe_kw a hgd (hr.mono hj) hg b c d pass0 hkw hrel hall hks hdb hpl
/-- three by turns: the last two come first -/
def rot3 {α : Type} : List α → List α
  | [a, b, c] => [b, c, a]
  | l => l
def swap2 {α : Type} : List α → List α
  | [a, b] => [b, a]
  | l => l
theorem rot3_rel {zs : List V} {ws : List Value} (h : Vals zs ws) : Vals (rot3 zs) (rot3 ws) := by
  match zs, ws, h with
  | [], [], .nil => exact .nil
  | [_], [_], .cons a .nil => exact .cons a .nil
  | [_, _], [_, _], .cons a (.cons b .nil) => exact .cons a (.cons b .nil)
  | [_, _, _], [_, _, _], .cons a (.cons b (.cons c .nil)) => exact .cons b (.cons c (.cons a .nil))
  | _ :: _ :: _ :: _ :: _, _ :: _ :: _ :: _ :: _, h => exact h
theorem swap2_rel {zs : List V} {ws : List Value} (h : Vals zs ws) : Vals (swap2 zs) (swap2 ws) := by
  match zs, ws, h with
  | [], [], .nil => exact .nil
  | [_], [_], .cons a .nil => exact .cons a .nil
  | [_, _], [_, _], .cons a (.cons b .nil) => exact .cons b (.cons a .nil)
  | _ :: _ :: _ :: _, _ :: _ :: _ :: _, h => exact h
end L2.Hx

/-! A tuple turned about, and a tuple beside the empty one. -/
namespace L2.Hx
open PySem PySem.Spec PyProof.Rows HT
section
variable {prog : Program} {w : World} {A : Around} {E : Value → Shared → Prop} {s : Shared}
theorem adjust_rev (n : Nat) : Builtin.Slice.sliceAdjust none none (-1) (n : Int) = ((n : Int) - 1, -1) := by
  unfold Builtin.Slice.sliceAdjust
  simp
theorem places_rev (n : Nat) : Builtin.Slice.slicePlaces ((n : Int) - 1) (-1) (-1) = n := by
  unfold Builtin.Slice.slicePlaces
  have h1 : ¬ ((-1 : Int) > 0) := by omega
  have h2 : (-(-1) : Int) = 1 := by omega
  simp only [h1, if_false, h2, Int.ediv_one]
  split <;> omega
theorem fm_congr {α : Type} {f g : Nat → Option α} : ∀ {l : List Nat}, (∀ m ∈ l, f m = g m) → l.filterMap f = l.filterMap g
  | [], _ => rfl
  | m :: l, h => by
    rw [List.filterMap_cons, List.filterMap_cons, h m List.mem_cons_self, fm_congr fun x hx => h x (List.mem_cons_of_mem _ hx)]
theorem sliceApplied_rev {sl : Addr} {vs : Value} {n : Nat} {Q : Int × Int × Nat → Shared → Prop} (hs : s.heap.IsSliceOf sl .none .none vs) (ps : IsPart vs (some (-1))) (h : Q ((n : Int) - 1, -1, n) s) :
    wpAny (model prog w) A (Builtin.Slice.sliceApplied (.ref sl) (pure (n : Int))) Q E s := by
  obtain ⟨os, hos, hcs, hds⟩ := id hs
  unfold Builtin.Slice.sliceApplied Builtin.Slice.sliceFields
  refine wpAny_bind (wpAny_bind (wpAny_field hos hds (x := .none) rfl (wpAny_bind (wpAny_field hos hds (x := .none) rfl (wpAny_bind (wpAny_field hos hds (x := vs) rfl (wpAny_pure ?_)))))))
  refine wpAny_bind (slicePart_ ps ?_)
  show wpAny _ _ (if ((-1 : Int) == 0) = true then _ else _) _ _ s
  rw [if_neg (by decide)]
  refine wpAny_bind (PyProof.Rows.slicePart_none (wpAny_bind (PyProof.Rows.slicePart_none (wpAny_bind (wpAny_pure ?_)))))
  show wpAny _ _ (match Builtin.Slice.sliceAdjust none none (-1) (n : Int) with | (lo, hi) => pure (lo, (-1 : Int), Builtin.Slice.slicePlaces lo hi (-1))) _ _ s
  rw [adjust_rev]
  show wpAny _ _ (pure ((n : Int) - 1, (-1 : Int), Builtin.Slice.slicePlaces ((n : Int) - 1) (-1) (-1))) _ _ s
  rw [places_rev]
  exact wpAny_pure h
theorem pick_rev (xs : Array Value) : ((List.range xs.size).filterMap fun (m : Nat) => xs[(((xs.size : Int) - 1) + (m : Int) * (-1)).toNat]?).toArray = xs.toList.reverse.toArray := by
  have e : (List.range xs.size).filterMap (fun (m : Nat) => xs[(((xs.size : Int) - 1) + (m : Int) * (-1)).toNat]?) = (List.range xs.size).filterMap (fun (m : Nat) => (xs.toList.reverse.toArray)[(((0 : Nat) : Int) + (m : Int) * 1).toNat]?) := by
    refine fm_congr fun m hm => ?_
    have hm := List.mem_range.mp hm
    rw [show (((0 : Nat) : Int) + (m : Int) * 1).toNat = m by omega, show xs.toList.reverse.toArray[m]? = xs.toList.reverse[m]? by simp, List.getElem?_reverse (by rw [Array.length_toList]; exact hm), Array.getElem?_toList, Array.length_toList]
    congr 1
    omega
  rw [e, pick_gen, List.drop_zero, List.toList_toArray, List.take_of_length_le (by simp)]
theorem getItem_tuple_rev {t sl : Addr} {items : Array Value} {vs : Value} {Q : Value → Shared → Prop} (ht : IsTup s.heap t items) (hs : s.heap.IsSliceOf sl .none .none vs) (ps : IsPart vs (some (-1)))
    (h : Q (.ref s.heap.objs.size) { s with heap := s.heap.push { cls := .type "tuple", data := .seq items.toList.reverse.toArray } }) (hsz : items.size ≤ sizeLine) : wpAny (model prog w) A (getItem (.ref t) (.ref sl)) Q E s := by
  have htake : sizeOk (.seq items.toList.reverse.toArray) := by
    show items.toList.reverse.toArray.size ≤ sizeLine
    rw [List.size_toArray, List.length_reverse, Array.length_toList]
    exact hsz
  obtain ⟨os, hos, hcs, hds⟩ := id hs
  have hTs : s.TypeIs (.ref sl) "slice" := ⟨os, hos, hcs⟩
  unfold getItem
  try with_reducible refine wpAny_holding ?_
  first | refine wpAny_bind (wpAny_pure ?_) | skip
  refine wpAny_bind (wpAny_sequenceKey ht.typeIs (by decide) ?_)
  refine wpAny_bind (wpAny_callSpecial?_slot (name := Str.ofString "__getitem__") ht.typeIs PyProof.Rows.slot_tuple_getitem
    (wpAny_call_entry PyProof.Rows.slot_tuple_getitem ht.typeIs entry_tuple_getitem ?_ (args_tuple_getitem _ _)))
  show wpAny _ _ (Builtin.Tuple.tupleItemsOf (.ref t) >>= _) _ _ s
  refine wpAny_bind (tupleItemsOf_ ht ?_)
  refine wpAny_bind (wpAny_typeOf hTs ?_)
  rw [if_pos (by decide)]
  refine wpAny_bind (sliceApplied_rev hs ps ?_)
  have hno : ¬ ((((items.size : Int) - 1) == 0 && (-1 : Int) == 1 && items.size == items.size) = true) := by simp
  show wpAny _ _ (if (((items.size : Int) - 1) == 0 && (-1 : Int) == 1 && items.size == items.size) = true then _ else _) _ _ s
  rw [if_neg hno, pick_rev]
  first
    | exact wpAny_bind (m := Builtin.Tuple.tupleExact _) (wpAny_newObj_type (wpAny_pure ⟨_, rfl, wpAny_pure h⟩) htake)
    | exact wpAny_bind (m := Builtin.Tuple.tupleExact _) (wpAny_newObj_type (wpAny_bind (wpAny_pure (wpAny_pure ⟨_, rfl, wpAny_pure h⟩))) htake)
    | exact wpAny_bind (wpAny_bind (m := Builtin.Tuple.tupleExact _) (wpAny_newObj_type (wpAny_pure (wpAny_pure ⟨_, rfl, wpAny_pure h⟩)) htake))
    | exact wpAny_bind (wpAny_bind (m := Builtin.Tuple.tupleExact _) (wpAny_newObj_type (wpAny_pure ⟨_, rfl, wpAny_pure h⟩) htake))
end
/-- t[::-1] -/
def tRevT (K : PySem.W.Frag) (te : TE) : TE := fun σ H Q => te σ H fun x H1 => ∃ a xs, x = .ref a ∧ SqT K H1 a xs ∧ ∀ p, H1 p = none → Q (.ref p) (upd H1 p (.tup xs.reverse))
theorem pe_revT {X : Cx} {e : Expr} {te : TE} {k : Nat} {p1 p2 p3 pos : Pos} (he : PE X e te) : PE X (.Subscript e (.Slice none none (some (.UnaryOp .USub (.Constant (.int 1) k p1) p2)) p3) pos) (tRevT X.K te) := by
  refine ⟨fun pins s σ H Q I h => ?_⟩
  refine Subscript_ (thn (he.run pins s σ H _ I h) fun v s1 ⟨x, H1, I1, r1, q1⟩ => ?_)
  obtain ⟨a, xs, ex, hx, q⟩ := q1
  subst ex
  cases r1
  have hst : PO X (some (.UnaryOp .USub (.Constant (.int 1) k p1) p2)) (tPart (tUn (rU fun i => .int (-i)) (tC (.int 1)))) := po_some (pe_un un_neg pe_int)
  refine wpAny_Slice (thn (po_none.run pins s1 σ H1 (fun o H2 => o = none ∧ H2 = H1) I1 ⟨rfl, rfl⟩) fun vl s2 ⟨l, H2, I2, pl, el, e2⟩ => ?_)
  subst el e2
  refine thn (po_none.run pins s2 σ H2 (fun o H3 => o = none ∧ H3 = H2) I2 ⟨rfl, rfl⟩) fun vu s3 ⟨u, H3, I3, pu, eu, e3⟩ => ?_
  subst eu e3
  refine thn (hst.run pins s3 σ H3 (fun o H4 => o = some (-1) ∧ H4 = H3) I3 ⟨1, rfl, -1, rfl, rfl, rfl⟩) fun vs s4 ⟨o, H4, I4, ps, eo, e4⟩ => ?_
  subst eo e4
  have I5 : Inv X pins σ H4 { s4 with heap := s4.heap.push { cls := .type "slice", data := .fields #[vl, vu, vs] } } := I4.kept (t' := s4.toks) fun b ob q => Heap.get?_push_of_some _ q
  obtain ⟨its, r, ht, hz⟩ := I5.tuple hx
  have hlen := r.length
  cases pl
  cases pu
  show wpAny (model X.prog X.w) X.A (subscriptTail e (.Slice none none (some (.UnaryOp .USub (.Constant (.int 1) k p1) p2)) p3) (.ref a) (.ref s4.heap.objs.size)) (EP X pins σ Q) X.xe { s4 with heap := s4.heap.push { cls := .type "slice", data := .fields #[.none, .none, vs] } }
  refine tail_any (ops := [.ref a, .ref s4.heap.objs.size]) ht.typeIs (PyProof.Rows.slot_tuple_getitem.lookup) ?_ (by with_unfolding_all rfl)
  refine getItem_tuple_rev ht (Heap.IsSliceOf.new _ .none .none vs) ps ?_ (by rw [List.size_toArray]; omega)
  refine ⟨.ref _, _, I5.laid (t' := s4.toks) (o := .tup xs.reverse) (fun b ob q => Heap.get?_push_of_some _ q) (Nat.le_refl _) ?_, rfl, q _ (I5.hok.fresh (Nat.le_refl _))⟩
  exact ⟨by rw [List.length_reverse]; omega, its.reverse, r.reverse, ⟨_, Heap.get?_push_size _ rfl, rfl, _, rfl⟩⟩
/-! ### t == () -/
def rEqNil (K : PySem.W.Frag) : R2 := fun x y H Q => ∃ a b xs, x = .ref a ∧ y = .ref b ∧ SqT K H a xs ∧ SqT K H b [] ∧ Q (.bl xs.isEmpty) H
theorem op_eqNil {X : Cx} (hu : X.A.units + 64 < cLine) : OpR X (compareOp .Eq) (rEqNil X.K) := by
  intro pins s σ H x y v u Q I rx ry h
  obtain ⟨a, b, xs, rfl, rfl, ha, hb, q⟩ := h
  cases rx
  cases ry
  obtain ⟨its, r1, p1, _⟩ := I.tuple ha
  obtain ⟨its2, r2, p2, _⟩ := I.tuple hb
  cases r2
  refine SeqAt.RcAt.tuples (e := fun _ => true) p1 p2 (by omega) (fun j h1 h2 => absurd h2 (by simp)) _ _ _ _ ⟨.bl _, H, I, rfl, ?_⟩
  have e : ((List.range (min its.toArray.size ([] : List Value).toArray.size)).all (fun _ => true) && its.toArray.size == ([] : List Value).toArray.size) = xs.isEmpty := by
    cases xs with
    | nil =>
      cases r1
      rfl
    | cons x xs =>
      cases r1
      rfl
  rw [e]
  exact q
end L2.Hx

/-! sorted of pairs of a text and an int; dict(zip(xs, ys)) of ints; x in t, t a tuple of data. -/
namespace L2.Sk
open PySem PySem.Spec PyProof.Rows Srt
section
variable {prog : Program} {w : World} {A : Around} {E : Value → Shared → Prop} {s : Shared}
theorem oneLt_str {a b : Str} {t u : Tok} {Q : Bool → Shared → Prop} (h : Q (decide (a.cps.toList < b.cps.toList)) s) : wpAny (model prog w) A (oneLt' true (.str a t) (.str b u)) Q E s := by
  rw [oneLt'_eq]
  simp only [if_true]
  refine wpAny_bind (wpAny_cRoomFor_byValue rfl ?_)
  refine wpAny_bind (wpAny_callSpecialIfBound?_slot (typeIs_str s a t) slot_str_lt (call_str_lt ?_))
  exact wpAny_truthy_bool h
def IsPairS (h : Heap) (v : Value) (x : Str) (y : Int) : Prop := ∃ a o t u n, v = .ref a ∧ h.get? a = some o ∧ o.cls = .type "tuple" ∧ o.data = .seq #[.str x t, .int y u] n
theorem IsPairS.keeps {h h' : Heap} {v : Value} {x : Str} {y : Int} (p : IsPairS h v x y) (k : ∀ b o, h.get? b = some o → o.cls = .type "tuple" → h'.get? b = some o) : IsPairS h' v x y := by
  obtain ⟨a, o, t, u, n, e, ho, hc, hd⟩ := p
  exact ⟨a, o, t, u, n, e, k _ _ ho hc, hc, hd⟩
theorem pair_tot {vs : List Value} (hp : ∀ v ∈ vs, ∃ x y, IsPairS s.heap v x y) : Tot prog w A s (tuples' true) (fun p => p.1 ∈ vs) := by
  intro p q hm hm'
  obtain ⟨x, y, a, o, t, u, n, e, ho, hc, hd⟩ := hp _ hm
  obtain ⟨x', y', a', o', t', u', n', e', ho', hc', hd'⟩ := hp _ hm'
  rw [e, e']
  refine ⟨if (x == x') = true then (if y = y' then false else decide (y < y')) else decide (x.cps.toList < x'.cps.toList), ?_⟩
  refine PySem.W.kat_lt ho hd ho' hd' ?_
  show PySem.W.KatLex prog w A true (decide (2 < 2)) _ [(.str x t, .str x' t'), (.int y u, .int y' u')] 0 s
  refine PySem.W.kat_cons (SeqAt.EqAt.str_str x t x' t' prog w _ _ ?_)
  refine PySem.W.kat_go (fun e1 => ?_) (fun e1 => ?_)
  · refine PySem.W.kat_yes (PySem.W.kat_cons (SeqAt.EqAt.int_int y u y' u' prog w _ _ ?_))
    refine PySem.W.kat_go (fun e2 => ?_) (fun e2 => ?_)
    · have ey : y = y' := by simpa using e2
      have e3 : (if (x == x') = true then (if y = y' then false else decide (y < y')) else decide (x.cps.toList < x'.cps.toList)) = false := by rw [if_pos e1, if_pos ey]
      exact PySem.W.kat_yes (PySem.W.kat_nil ⟨rfl, e3.symm⟩)
    · have ey : ¬ y = y' := by simpa using e2
      have e3 : (if (x == x') = true then (if y = y' then false else decide (y < y')) else decide (x.cps.toList < x'.cps.toList)) = decide (y < y') := by rw [if_pos e1, if_neg ey]
      refine PySem.W.kat_no (PySem.W.kat_one _ _ (PyProof.Rows.lt_int ?_))
      exact (show s = s ∧ decide (y < y') = (if (x == x') = true then (if y = y' then false else decide (y < y')) else decide (x.cps.toList < x'.cps.toList)) from ⟨rfl, e3.symm⟩)
  · have e3 : (if (x == x') = true then (if y = y' then false else decide (y < y')) else decide (x.cps.toList < x'.cps.toList)) = decide (x.cps.toList < x'.cps.toList) := by rw [if_neg (by rw [e1]; exact Bool.false_ne_true)]
    exact PySem.W.kat_no (oneLt_str ⟨rfl, e3.symm⟩)
theorem firsts_of {h : Heap} : ∀ {vs : List Value}, (∀ v ∈ vs, ∃ x y, IsPairS h v x y) → ∃ fs : List Value, PySem.W.KatTups h vs fs ∧ fs.length = vs.length ∧ ∀ f ∈ fs, ∃ x t, f = Value.str x t
  | [], _ => ⟨[], PySem.W.KatTups.nil, rfl, fun _ hm => by simp at hm⟩
  | v :: vs, hp => by
    obtain ⟨fs, h1, h2, h3⟩ := firsts_of (vs := vs) fun v' hm => hp v' (List.mem_cons_of_mem _ hm)
    obtain ⟨x, y, a, o, t, u, n, e, ho, hc, hd⟩ := hp v (List.mem_cons_self ..)
    subst e
    refine ⟨.str x t :: fs, PySem.W.KatTups.cons ho hc hd rfl h1, by rw [List.length_cons, List.length_cons, h2], fun f hm => ?_⟩
    rcases List.mem_cons.mp hm with rfl | hm
    · exact ⟨x, t, rfl⟩
    · exact h3 f hm
theorem pairs_sortable {a : Addr} {vs : List Value} (h0 : 0 < vs.length) (hp : ∀ v ∈ vs, ∃ x y, IsPairS s.heap v x y) (ha : ∀ o, s.heap.get? a = some o → o.cls ≠ .type "tuple") : Sortable prog w A s a vs := by
  intro h' keep
  have hp' : ∀ v ∈ vs, ∃ x y, IsPairS h' v x y := fun v hm => by
    obtain ⟨x, y, p⟩ := hp v hm
    exact ⟨x, y, p.keeps fun b o e c => keep b o (fun z => by subst z; exact ha o e c) e⟩
  obtain ⟨fs, h1, h2, h3⟩ := firsts_of hp'
  refine ⟨tuples' true, fun Q E hq => ?_, pair_tot hp'⟩
  refine PySem.W.kat_kind (T := .type "str") h1 (by omega) (fun f hm => ?_) (by rfl) ?_
  · obtain ⟨x, t, rfl⟩ := h3 f hm
    exact PySem.W.Looks.now
  · have e : (Value.type "str" != Value.type "tuple") = true := by first | decide +kernel | rfl | decide
    rw [e]
    exact hq
theorem sorted_pairs {l : Addr} {vs : List Value} {Q : Value → Shared → Prop} (hl : s.heap.IsList l vs.toArray) (hz : vs.length ≤ sizeLine) (hp : ∀ v ∈ vs, ∃ x y, IsPairS s.heap v x y)
    (h : ∀ (h' : Heap) (d : Addr) (out : List Value), out.Perm vs → (∀ b o, s.heap.get? b = some o → h'.get? b = some o) → s.heap.objs.size ≤ d → (∃ n, h'.get? d = some (seqObj "list" out.toArray n)) → Q (.ref d) { s with heap := h' }) :
    wpAny (model prog w) A (call (.builtin "sorted") [.ref l]) Q E s := by
  refine sorted_any hl hz (fun h2 h₁ a ha k => ?_) fun out ho => ?_
  · refine pairs_sortable (s := { s with heap := h₁ }) (by omega) (fun v hm => ?_) fun o e => ?_
    · obtain ⟨x, y, p⟩ := hp v hm
      exact ⟨x, y, p.keeps fun b o e _ => (k b o e).2⟩
    · have e' : some o = some (seqObj "list" vs.toArray 0) := e.symm.trans ha
      cases e'
      intro c
      exact absurd (Value.type.inj c) (by decide)
  · exact h _ _ out ho (fun b o e => sortedAll_old e) (Nat.le_succ _) (sortedAll_at s.heap vs out.toArray)
end
end L2.Sk
namespace L2
open PySem PySem.Spec PyProof.Rows
section
variable {X : Cx}
/-- sorted(xs), xs a list of pairs of a text and an int: the same in another order -/
def rSortedSP (K : PySem.W.Frag) : List V → Hp → VK → Prop := fun vs H Q => ∃ a xs, vs = [V.ref a] ∧ SqL K H a xs ∧ (∀ x ∈ xs, ∃ t i j, x = V.ref t ∧ SqT K H t [.str i, .int j]) ∧
  ∀ ys p, ys.Perm xs → H p = none → Q (.ref p) (upd H p (.lst ys))
theorem cr_sortedSP : CallR X (.builtin "sorted") (rSortedSP X.K) := by
  intro pins s σ H vs us Q I r h
  obtain ⟨a, xs, rfl, hs, hx, q⟩ := h
  obtain ⟨its, rv, hl, hz⟩ := I.list hs
  obtain ⟨u, rfl, ru⟩ := vals1 r
  obtain rfl : u = Value.ref a := ru
  obtain ⟨e1, e2⟩ := refs_back rv fun x m => by
    obtain ⟨t, _, _, e, _⟩ := hx x m
    exact ⟨t, e⟩
  refine Sk.sorted_pairs hl.isList (by rw [← rv.length]; exact hz) (fun v hv => ?_) fun h' d out hp k hd hn => ?_
  · obtain ⟨t, rfl⟩ := e2 v hv
    have hm : V.ref t ∈ xs := by rw [e1]; exact List.mem_map.mpr ⟨_, hv, rfl⟩
    obtain ⟨t', i, j, e, ht⟩ := hx _ hm
    cases e
    obtain ⟨its2, r2, ⟨o, ho, hc, n, hd⟩, _⟩ := I.tuple ht
    obtain ⟨u1, u2, rfl, ri, rj⟩ := vals2 r2
    obtain ⟨t1, rfl⟩ := ri
    obtain ⟨t2, rfl⟩ := rj
    exact ⟨i, j, t, o, t1, t2, n, rfl, ho, hc, hd⟩
  · have h3 : ∀ u ∈ out, ∃ a, u = Value.ref a := fun u hu => e2 u (hp.mem_iff.mp hu)
    obtain ⟨n, hn⟩ := hn
    refine ⟨.ref d, upd H d (.lst (out.map backV)), I.laid (t' := s.toks) k hd ⟨?_, out, n, vals_back h3, hn⟩, rfl, q _ d ?_ (I.hok.fresh hd)⟩
    · rw [List.length_map, hp.length_eq, ← rv.length]; exact hz
    · rw [e1]; exact hp.map backV
/-- sorted(xs), xs a list of pairs of ints that stand anywhere: a new list, sorted -/
def rSortedPT (K : PySem.W.Frag) : List V → Hp → VK → Prop := fun vs H Q => ∃ (a : Addr) (xs : List V) (k : V → Int × Int), vs = [V.ref a] ∧ SqL K H a xs ∧ (∀ x ∈ xs, ∃ t, x = V.ref t ∧ SqT K H t [.int (k x).1, .int (k x).2]) ∧
  ∀ ys p, SrtO.Srtd (ltP k) ys → ys.Perm xs → H p = none → Q (.ref p) (upd H p (.lst ys))
theorem cr_sortedPT : CallR X (.builtin "sorted") (rSortedPT X.K) := by
  intro pins s σ H vs us Q I r h
  obtain ⟨a, xs, k, rfl, hs, hx, q⟩ := h
  obtain ⟨its, rv, hl, hz⟩ := I.list hs
  obtain ⟨u, rfl, ru⟩ := vals1 r
  obtain rfl : u = Value.ref a := ru
  obtain ⟨e1, e2⟩ := refs_back rv fun x m => by
    obtain ⟨t, e, _⟩ := hx x m
    exact ⟨t, e⟩
  refine SrtO.sorted_pairsO (k := fun u => k (backV u)) hl.isList (by rw [← rv.length]; exact hz) (fun v hv => ?_) fun h' d out h1 h2 kp hd hn => ?_
  · obtain ⟨t, rfl⟩ := e2 v hv
    have hm : V.ref t ∈ xs := by rw [e1]; exact List.mem_map.mpr ⟨_, hv, rfl⟩
    obtain ⟨t', e, ht⟩ := hx _ hm
    cases e
    obtain ⟨its2, r2, ⟨o, ho, hc, n, hd⟩, _⟩ := I.tuple ht
    obtain ⟨u1, u2, rfl, ri, rj⟩ := vals2 r2
    obtain ⟨t1, rfl⟩ := ri
    obtain ⟨t2, rfl⟩ := rj
    exact ⟨t, o, t1, t2, n, rfl, ho, hc, hd⟩
  · have h3 : ∀ u ∈ out, ∃ a, u = Value.ref a := fun u hu => e2 u (h2.perm.mem_iff.mp hu)
    obtain ⟨n, hn⟩ := hn
    have hb : SrtO.Stb (ltP k) (out.map backV) xs := by
      rw [e1]
      exact SrtO.Stb.map (ltP_swo k) backV h2
    refine ⟨.ref d, upd H d (.lst (out.map backV)), I.laid (t' := s.toks) kp hd ⟨?_, out, n, vals_back h3, hn⟩, rfl, q _ d (SrtO.srtd_map h1) hb.perm (I.hok.fresh hd)⟩
    rw [hb.len]
    exact hz
theorem units65 {k : Nat} {A : Around} (r : Room k A) : A.units + 65 < cLine := by have := r.un; omega
/-- x in t, both any data, t a tuple -/
def rInT (K : PySem.W.Frag) : R2 := fun x y H Q => ∃ d ds, Dp K H x d ∧ Dp K H y (.tuple ds) ∧ SeqAt.shaped d = true ∧ SeqAt.shaped (.tuple ds) = true ∧ Q (.bl (ds.any fun z => PyData.eqv z d)) H
theorem op_inT (hu : X.A.units + 65 < cLine) : OpR X (compareOp .In) (rInT X.K) := by
  intro pins s σ H x y v u Q I rx ry h
  obtain ⟨d, ds, hd, he, sd, se, q⟩ := h
  obtain ⟨as, r1⟩ := Dp.reads I d x v hd rx
  obtain ⟨bs, r2⟩ := Dp.reads I (.tuple ds) y u he ry
  exact SeqAt.in_tuple_reads r2 r1 (SeqAt.canLay_of_shaped se) (SeqAt.canLay_of_shaped sd) (room_in_shaped sd hu) ⟨.bl _, H, I, rfl, q⟩
/-- d != {} -/
def rNeDct : R2 := fun x y H Q => ∃ a b ks, x = .ref a ∧ y = .ref b ∧ H a = some (.dK ks) ∧ H b = some (.dK []) ∧ Q (.bl (!ks.isEmpty)) H
theorem op_neDct (hu : X.A.units < cLine) : OpR X (compareOp .NotEq) rNeDct := by
  intro pins s σ H x y v u Q I rx ry h
  obtain ⟨a, b, ks, rfl, rfl, ea, eb, q⟩ := h
  obtain rfl : v = Value.ref a := rx
  obtain rfl : u = Value.ref b := ry
  obtain ⟨_, ya, va, ra, da⟩ := (show ObjOk X.prog X.w H s.heap a (.dK ks) from I.hok a _ ea)
  obtain ⟨_, yb, vb, rb, db⟩ := (show ObjOk X.prog X.w H s.heap b (.dK []) from I.hok b _ eb)
  have l1 := ra.length
  have l2 := rb.length
  refine PySem.W.keq_ne (knd := mixKind X.prog X.w) (r := true) ya yb da db hu (fun e => ?_) (fin_bl I q ?_)
  · have e0 : ks = [] := List.length_eq_zero_iff.mp (by rw [l1, e, ← l2]; rfl)
    subst e0
    exact hits_all rb ra fun p m => absurd m List.not_mem_nil
  · rw [← l1, ← l2]
    cases ks <;> rfl
/-- dict(zip(xs, ys)), two lists of ints -/
def rDictZip (K : PySem.W.Frag) : List V → Hp → VK → Prop := fun zs H Q => ∃ (a b : Addr) (ns us : List Int), zs = [.ref a, .ref b] ∧ SqL K H a (ns.map V.int) ∧ SqL K H b (us.map V.int) ∧ ns.length ≤ us.length ∧
  ∀ p, H p = none → Q (.ref p) (upd H p (.dK (mergeK [] ((ns.zip us).map fun q => ((.inl q.1 : Key), V.int q.2)))))
def tDictZip (K : PySem.W.Frag) (ta : TA) : TE := fun σ H Q => ta σ H fun zs H1 => rDictZip K zs H1 Q
theorem zip_rel {xs ys : List Value} {ns us : List Int} (r1 : Vals (ns.map V.int) xs) (r2 : Vals (us.map V.int) ys) : KV ((ns.zip us).map fun q => ((.inl q.1 : Key), V.int q.2)) ((ns.zip ys).map fun q => ((.inl q.1 : Key), q.2)) := by
  induction ns generalizing us xs ys with
  | nil => exact .nil
  | cons n ns ih =>
    cases us with
    | nil =>
      cases r2
      exact .nil
    | cons u us =>
      cases r1 with
      | cons a1 b1 =>
        cases r2 with
        | cons a2 b2 => exact .cons ⟨rfl, a2⟩ (ih b1 b2)
theorem pe_dictZip {e e2 : Expr} {ta : TA} {p pz pz2 pos : Pos} (hc : X.calm = true) (hg : Gl X "dict") (hm : X.mg "dict" = none) (hgz : Gl X "zip") (hmz : X.mg "zip" = none) (ha : PA X [e, e2] ta) (hv : bootBuiltins "dict" = some (.type "dict") := by rfl)
    (hs : starEach [e, e2] X.env = (false, eval e X.env) :: starEach [e2] X.env := by rfl) (hpl : (backTo pz2 (starEach [e2] X.env)).any (·.1) = false := by rfl)
    (hs1 : starEach [.Call (.Name "zip" pz) [e, e2] [] pz2] X.env = (false, eval (.Call (.Name "zip" pz) [e, e2] [] pz2) X.env) :: starEach [] X.env := by rfl) :
    PE X (.Call (.Name "dict" p) [.Call (.Name "zip" pz) [e, e2] [] pz2] [] pos) (tDictZip X.K ta) := by
  refine ⟨fun pins s σ H Q I hq => ?_⟩
  refine wpAny_Call_Name_kw (ld_blt I hg hm hv ?_)
  refine PyProof.Rows.callWith_type1 ?_ hs1 rfl
  rw [hs1]
  show wpAny _ _ (spliced ((false, eval (.Call (.Name "zip" pz) [e, e2] [] pz2) X.env) :: backTo pos (starEach [] X.env))) _ _ s
  refine Calls.spliced_cons ?_
  refine Call_ (ld_blt I hgz hmz PyProof.Rows.boot_zip (PyProof.Rows.callWith_type1 (thn (ha.run pz2 pins s σ H _ I hq) fun us s1 ⟨vs, H1, I1, r1, q1⟩ => ?_) hs hpl))
  obtain ⟨a, b, ns, ms, ex, hqx, hqy, hlen, q⟩ := q1
  subst ex
  cases r1 with
  | cons r rr =>
    cases rr with
    | cons r' rr =>
      cases rr
      cases r
      cases r'
      obtain ⟨its, rv, p1, z1⟩ := I1.list hqx
      obtain ⟨its2, rv2, p2, _⟩ := I1.list hqy
      have la : a < s1.heap.objs.size := p1.lt
      have lb : b < s1.heap.objs.size := p2.lt
      have n1 := rv.length
      have n2 := rv2.length
      rw [List.length_map] at n1 n2
      refine call_zip_2 p1.isList p2.isList fun h' hz hTI hTO h1 h2 hsz hk => ?_
      refine Calls.spliced_nil ?_
      have I2 : Inv X pins σ H1 { s1 with heap := h' } := I1.kept (t' := s1.toks) hk
      have ml : min its.toArray.size its2.toArray.size = ns.length := by rw [List.size_toArray, List.size_toArray]; omega
      refine PySem.call_dict_pairs (s := { s1 with heap := h' }) (knd := mixKind X.prog X.w) (kvs := (ns.zip its2).map fun q => ((.inl q.1 : Key), q.2)) (PairArg.zip (s1.heap.objs.size + 4) (s1.heap.objs.size + 2) (s1.heap.objs.size + 3) s1.heap.objs.size (s1.heap.objs.size + 1) a b (PySem.W.ktu_apart s1.heap.objs.size a b la lb) its.toArray its2.toArray)
        (I2.ok.hd hc) ⟨hz, hTI, ⟨_, _, hTO⟩, h1, h2, p1.isList.at fun o e => hk _ o e, p2.isList.at fun o e => hk _ o e⟩ ⟨by rw [List.length_map, List.length_zip, ml]; omega, fun i key v hv => ?_⟩ (by rw [ml]; rw [List.length_map] at z1; exact z1) fun h2' tk hd' hk2 => ?_
      · obtain ⟨e1, e2⟩ := hv
        rw [List.getElem?_toArray] at e1 e2
        have hi : i < ns.length := by
          have := (List.getElem?_eq_some_iff.mp e1).1
          omega
        obtain ⟨u, f1, f2⟩ := rv.get (i := i) (x := .int ns[i]) (by rw [List.getElem?_map, List.getElem?_eq_getElem hi]; rfl)
        rw [e1] at f1
        cases f1
        obtain ⟨t, rfl⟩ := f2
        refine ⟨.inl ns[i], ?_, keyIs_int _ t⟩
        have ez : (ns.zip its2)[i]? = some (ns[i], v) := List.getElem?_zip_eq_some.mpr ⟨List.getElem?_eq_getElem hi, e2⟩
        rw [List.getElem?_map, ez]
        rfl
      · have big : s1.heap.objs.size ≤ h'.objs.size := by rw [hsz]; exact Nat.le_add_right _ _
        have hm0 : (h'.objs.size == sysModules) = false := beq_eq_false_iff_ne.mpr (Nat.ne_of_gt I2.big)
        have rel := zip_rel rv rv2
        have hlen2 : (mergeK [] ((ns.zip ms).map fun q => ((.inl q.1 : Key), V.int q.2))).length ≤ sizeLine := by
          refine Nat.le_trans (length_mergeK _ []) ?_
          rw [List.length_nil, Nat.zero_add, List.length_map, List.length_zip]
          rw [List.length_map] at z1
          omega
        refine ⟨.ref h'.objs.size, upd H1 h'.objs.size (.dK (mergeK [] ((ns.zip ms).map fun q => ((.inl q.1 : Key), V.int q.2)))), I1.laid (t' := tk) (fun c o e => ?_) big (show ObjOk X.prog X.w _ _ _ (.dK _) from ⟨hlen2, hm0, merged [] _, KV.merge rel .nil, hd'⟩), rfl, q _ (I1.hok.fresh big)⟩
        have lc := Heap.lt_size e
        refine hk2 c o (fun m => ?_) (hk c o e)
        rcases List.mem_cons.mp m with rfl | m
        · exact Nat.lt_irrefl _ (Nat.lt_of_le_of_lt (Nat.le_add_right _ _) lc)
        rcases List.mem_cons.mp m with rfl | m
        · exact Nat.lt_irrefl _ (Nat.lt_of_le_of_lt (Nat.le_add_right _ _) lc)
        rcases List.mem_cons.mp m with rfl | m
        · exact Nat.lt_irrefl _ lc
        · rw [List.mem_singleton.mp m] at lc
          exact Nat.lt_irrefl _ (Nat.lt_of_le_of_lt (Nat.le_add_right _ _) lc)
end
end L2

/-! sorted of data: lists of tuples; the items of a dict. -/
namespace L2
open PySem PySem.Spec PyProof.Rows
theorem each_of_paired {α β : Type} {F : α → β → Prop} : ∀ {as : List α} {bs : List β}, Paired F as bs → PySem.W.EachIs F as bs
  | _, _, .nil => .nil
  | _, _, .cons h t => .cons h (each_of_paired t)
theorem paired_of_each {α β : Type} {F : α → β → Prop} : ∀ {as : List α} {bs : List β}, PySem.W.EachIs F as bs → Paired F as bs
  | _, _, .nil => .nil
  | _, _, .cons h t => .cons h (paired_of_each t)
theorem paired_back {β : Type} {F : V → β → Prop} : ∀ {us : List Value} {bs : List β}, Paired (fun u b => F (backV u) b) us bs → Paired F (us.map backV) bs
  | _, _, .nil => .nil
  | _, _, .cons h t => .cons h (paired_back t)
theorem paired_val {β : Type} {F : V → β → Prop} : ∀ {us : List Value} {bs : List β}, Paired F (us.map backV) bs → Paired (fun u b => F (backV u) b) us bs
  | [], _, h => by cases h; exact .nil
  | _ :: us, _, h => by
    cases h with
    | cons a t => exact .cons a (paired_val t)
theorem sortVals_perm {κ : PyProof.Rows.KeyKind} {b : Bool} {vs : List Value} : (PySem.W.sortVals κ b vs vs).Perm vs := by
  unfold PySem.W.sortVals
  have h := (List.mergeSort_perm (vs.zip vs) (PySem.W.sortLe κ.toKeyOrd b fun p : Keyed => PySem.W.keyD κ p.1)).map Prod.snd
  rw [List.map_snd_zip (Nat.le_refl _)] at h
  exact h
section
variable {X : Cx}
theorem paired_reads {pins : List (Addr × Obj)} {σ : L2.St} {H : Hp} {s : Shared} {β : Type} {enc : β → PyData} (I : Inv X pins σ H s) : ∀ {us : List Value} {bs : List β}, Paired (fun u b => Dp X.K H (backV u) (enc b)) us bs → (∀ u ∈ us, ∃ a, u = Value.ref a) → Paired (fun v b => ∃ as, Reads s.heap v (enc b) as) us bs
  | _, _, .nil, _ => .nil
  | u :: us, b :: bs, .cons h t, e2 => by
    refine .cons ?_ (paired_reads I t fun u m => e2 u (List.mem_cons_of_mem _ m))
    obtain ⟨c, rfl⟩ := e2 u List.mem_cons_self
    exact Dp.reads I (enc b) (.ref c) (.ref c) h rfl
/-- sorted(xs), xs a list of tuples that compare; R is what is known of them -/
def rSortedT2 (K : PySem.W.Frag) : List V → Hp → VK → Prop := fun vs H Q => ∃ (a : Addr) (xs : List V) (β : Type) (bs : List β) (enc : β → PyData) (R : V → β → Prop), vs = [V.ref a] ∧ SqL K H a xs ∧ (∀ x ∈ xs, ∃ t, x = V.ref t) ∧
  Paired R xs bs ∧ Paired (fun x b => Dp K H x (enc b)) xs bs ∧ (∀ b b', PySem.W.alike (enc b) (enc b') = true) ∧ (∀ b, ∃ x r, enc b = .tuple (x :: r)) ∧ (∀ b, b ∈ bs → (enc b).depth ≤ 60) ∧
  ∀ ys p, ys.Perm xs → Paired R ys (bs.mergeSort (PySem.W.dataLe false enc)) → H p = none → Q (.ref p) (upd H p (.lst ys))
theorem cr_sortedT2 (hu : X.A.units + 64 < cLine) : CallR X (.builtin "sorted") (rSortedT2 X.K) := by
  intro pins s σ H vs us Q I r h
  obtain ⟨a, xs, β, bs, enc, R, rfl, hs, hx, hR, hD, al, tp, dp, q⟩ := h
  obtain ⟨its, rv, hl, hz⟩ := I.list hs
  obtain ⟨u, rfl, ru⟩ := vals1 r
  obtain rfl : u = Value.ref a := ru
  obtain ⟨e1, e2⟩ := refs_back rv hx
  have er : PySem.W.EachIs (fun v b => ∃ as, Reads s.heap v (enc b) as) its bs := by
    refine each_of_paired ?_
    rw [e1] at hD
    exact paired_reads I (paired_val hD) e2
  have eR : PySem.W.EachIs (fun v b => R (backV v) b) its bs := by
    rw [e1] at hR
    exact each_of_paired (paired_val hR)
  have er' : PySem.W.EachIs (fun v b => ∃ as, Reads (PySem.W.sortingHeap (PySem.W.copyHeap s.heap its) (s.heap.objs.size + 1) its) v (enc b) as) its bs := er.mono fun _ _ ⟨as, r⟩ => ⟨as, PyProof.Rows.Reads.keeps (fun _ _ => PySem.W.sorting_copy_old) r⟩
  have hal := PySem.W.AllAlike.of (bs := bs) al
  have dm : ∀ d, d ∈ bs.map enc → d.depth ≤ 60 := fun d m => by
    obtain ⟨b, mb, rfl⟩ := List.mem_map.mp m
    exact dp b mb
  refine PySem.W.sorted_vals hl.isList (PySem.W.SortsAt.data (s := { s with heap := PySem.W.sortingHeap (PySem.W.copyHeap s.heap its) (s.heap.objs.size + 1) its }) (PySem.W.each_map (R := fun v d => ∃ as, Reads (PySem.W.sortingHeap (PySem.W.copyHeap s.heap its) (s.heap.objs.size + 1) its) v d as) enc er') hal (PySem.W.Sortable.tuples tp) (fun d m => ?_)) (by rw [← rv.length]; exact hz) ?_
  · have := dm d m
    show X.A.units + 1 + 1 + d.depth < cLine
    omega
  · have hp : (PySem.W.sortVals (PySem.W.dataKind (PySem.W.sortingHeap (PySem.W.copyHeap s.heap its) (s.heap.objs.size + 1) its) (bs.map enc)) false its its).Perm its := sortVals_perm
    have hb := paired_back (paired_of_each (PySem.W.sortVals_data (h' := PySem.W.sortingHeap (PySem.W.copyHeap s.heap its) (s.heap.objs.size + 1) its) false eR er' hal))
    generalize PySem.W.sortVals (PySem.W.dataKind (PySem.W.sortingHeap (PySem.W.copyHeap s.heap its) (s.heap.objs.size + 1) its) (bs.map enc)) false its its = out at hp hb ⊢
    have h3 : ∀ u ∈ out, ∃ a, u = Value.ref a := fun u hu => e2 u (hp.mem_iff.mp hu)
    obtain ⟨n, hn⟩ := sortedAll_at s.heap its out.toArray
    refine ⟨.ref (s.heap.objs.size + 1), upd H (s.heap.objs.size + 1) (.lst (out.map backV)), I.laid (t' := s.toks) (fun b o e => sortedAll_old e) (Nat.le_succ _) ⟨?_, out, n, vals_back h3, hn⟩, rfl, q _ _ ?_ hb (I.hok.fresh (Nat.le_succ _))⟩
    · rw [List.length_map, hp.length_eq, ← rv.length]; exact hz
    · rw [e1]; exact hp.map backV
end
end L2

/-! sorted(d.items()), a dict of ints. -/
namespace L2
open PySem PySem.Spec PyProof.Rows L2.DX
abbrev pairI (q : Int × Int) : PyData := .tuple [.int q.1, .int q.2]
def ipK (hp : List (Int × Int)) : List (Key × V) := hp.map fun q => (.inl q.1, .int q.2)
theorem refs_pair {β : Type} {R : Value → β → Prop} (h : ∀ u b, R u b → ∃ t, u = Value.ref t) : ∀ {out : List Value} {bs : List β}, Paired R out bs → ∃ ts : List Addr, out = ts.map Value.ref ∧ Paired (fun t b => R (.ref t) b) ts bs
  | _, _, .nil => ⟨[], rfl, .nil⟩
  | _, _, .cons r t => by
    obtain ⟨ts, e, p⟩ := refs_pair h t
    obtain ⟨a, rfl⟩ := h _ _ r
    exact ⟨a :: ts, by rw [e]; rfl, .cons r p⟩
theorem paired_left {α β : Type} {F : α → β → Prop} : ∀ {xs : List α} {ys : List β} {a : α}, Paired F xs ys → a ∈ xs → ∃ b, F a b
  | _, _, _, .nil, m => absurd m List.not_mem_nil
  | _, _, _, .cons r t, m => by
    rcases List.mem_cons.mp m with rfl | m
    · exact ⟨_, r⟩
    · exact paired_left t m
theorem paired_mp {α β : Type} {F G : α → β → Prop} : ∀ {xs : List α} {ys : List β}, (∀ a b, F a b → G a b) → Paired F xs ys → Paired G xs ys
  | _, _, _, .nil => .nil
  | _, _, h, .cons r t => .cons (h _ _ r) (paired_mp h t)
section
variable {X : Cx}
def rItemsK : V → List V → Hp → VK → Prop := fun x xs H Q => ∃ (a : Addr) (kvs : List (Key × V)), x = .ref a ∧ xs = [] ∧ H a = some (.dK kvs) ∧ ∀ p, H p = none → Q (.ref p) (upd H p (itemsO p a))
theorem mt_itemsK : MtR X "dict.items" rItemsK := by
  intro pins s σ H x xs v us Q I rx rxs h
  obtain ⟨a, kvs, rfl, rfl, ha, q⟩ := h
  cases rx
  cases rxs
  obtain ⟨_, hs, vs, r, o, es, ep, h1, h2, h3, _, h5, _⟩ := (show ObjOk X.prog X.w H s.heap a (.dK kvs) from I.hok a _ ha)
  refine DT.callItems (es := es) (ep := ep) hs ⟨o, h1, h2, h3⟩ ?_
  exact ⟨.ref s.heap.objs.size, upd H s.heap.objs.size (itemsO s.heap.objs.size a), I.laid (t' := s.toks) (fun b u e => Heap.get?_push_of_some _ e) (Nat.le_refl _) (itemsO_ok (Heap.get?_push_size _ rfl)), rfl, q _ (I.hok.fresh (Nat.le_refl _))⟩
def rSortedItI : List V → Hp → VK → Prop := fun vs H Q => ∃ (p a : Addr) (hp : List (Int × Int)), vs = [.ref p] ∧ H p = some (itemsO p a) ∧ H a = some (.dK (ipK hp)) ∧
  ∀ (H' : Hp) (l : Addr) (ts : List Addr), (∀ b o, H b = some o → H' b = some o) → H l = none → H' l = some (.lst (ts.map V.ref)) → Paired (fun (t : Addr) (q : Int × Int) => H' t = some (.tup [.int q.1, .int q.2])) ts (hp.mergeSort (PySem.W.dataLe false pairI)) → (∀ t ∈ ts, H t = none) → Q (.ref l) H'
theorem cr_sortedItI (hc : X.calm = true) (hu : X.A.units + 64 < cLine) : CallR X (.builtin "sorted") rSortedItI := by
  intro pins s σ H xs us Q I r h
  obtain ⟨p, a, hp, rfl, hpp, ha, q⟩ := h
  obtain rfl := Vals.ref1 r
  have view : s.heap.IsItemsView p a := (show ObjOk X.prog X.w H s.heap p (itemsO p a) from I.hok p _ hpp).1
  obtain ⟨hz, hs, vs, r, o, es, ep, h1, h2, h3, _, h5, _⟩ := (show ObjOk X.prog X.w H s.heap a (.dK (ipK hp)) from I.hok a _ ha)
  obtain ⟨vk, vv⟩ := Hx.pairs_keys r h5
  have lk : hp.length = es.toList.length := by
    have := vk.length
    rw [List.length_map, List.length_map] at this
    unfold ipK at this
    rw [List.length_map] at this
    exact this
  have zh : hp.length ≤ sizeLine := by
    unfold ipK at hz
    rw [List.length_map] at hz
    exact hz
  have hh : X.A.handled = none := I.ok.hd hc
  refine DT.sortedI (es := es) (ep := ep) hh view ⟨o, h1, h2, h3⟩ (by rw [← Array.length_toList, ← lk]; exact zh) fun h' tk as hk hlt hl hG => ?_
  rw [← Array.length_toList, ← lk] at hl
  have nd : as.Nodup := List.Pairwise.imp (fun h => Nat.ne_of_lt h) hG.rise
  have pr : ∀ (j : Nat) (b : Addr), as[j]? = some b → ∃ (q : Int × Int) (t u : Tok), hp[j]? = some q ∧ h'.get? b = some { cls := .type "tuple", data := .seq #[.int q.1 t, .int q.2 u] } := by
    intro j b hj
    obtain ⟨en, he, hg⟩ := hG.pairs j b hj
    have hjl : j < hp.length := by
      have := (List.getElem?_eq_some_iff.mp hj).1
      omega
    rw [← Array.getElem?_toList] at he
    obtain ⟨k1, f1, r1⟩ := vk.get (i := j) (x := .int hp[j].1) (by unfold ipK; rw [List.getElem?_map, List.getElem?_map, List.getElem?_eq_getElem hjl]; rfl)
    obtain ⟨k2, f2, r2⟩ := vv.get (i := j) (x := .int hp[j].2) (by unfold ipK; rw [List.getElem?_map, List.getElem?_map, List.getElem?_eq_getElem hjl]; rfl)
    rw [List.getElem?_map, he] at f1 f2
    cases f1
    cases f2
    obtain ⟨t, e1⟩ := r1
    obtain ⟨u, e2⟩ := r2
    have e1 : en.key = Value.int hp[j].1 t := e1
    have e2 : en.val = Value.int hp[j].2 u := e2
    rw [e1, e2] at hg
    exact ⟨hp[j], t, u, List.getElem?_eq_getElem hjl, hg⟩
  have hob : (h'.push { cls := .type "list", data := .seq (as.map Value.ref).toArray }).get? h'.objs.size = some (seqObj "list" (as.map Value.ref).toArray 0) := Heap.get?_push_size _ rfl
  have ka : ∀ b o, h'.get? b = some o → (h'.push { cls := .type "list", data := .seq (as.map Value.ref).toArray }).get? b = some o := fun b o e => Heap.get?_push_of_some _ e
  have ne0 : ∀ b o, h'.get? b = some o → b ≠ h'.objs.size := fun b o e => Nat.ne_of_lt (Heap.lt_size e)
  generalize hh2 : h'.push { cls := .type "list", data := .seq (as.map Value.ref).toArray } = h2 at hob ka ⊢
  let R : Value → Int × Int → Prop := fun v q => ∃ b t u, v = .ref b ∧ b ∈ as ∧ h'.get? b = some { cls := .type "tuple", data := .seq #[.int q.1 t, .int q.2 u] }
  have e0 : Paired R (as.map Value.ref) hp := by
    clear hG hob hh2 ka
    have pr2 : ∀ (L : List Addr) (hq : List (Int × Int)), L.length = hq.length → (∀ b ∈ L, b ∈ as) → (∀ (j : Nat) (b : Addr), L[j]? = some b → ∃ (q : Int × Int) (t u : Tok), hq[j]? = some q ∧ h'.get? b = some { cls := .type "tuple", data := .seq #[.int q.1 t, .int q.2 u] }) → Paired R (L.map Value.ref) hq := by
      intro L
      induction L with
      | nil =>
        intro hq e _ _
        cases hq with
        | nil => exact .nil
        | cons _ _ => cases e
      | cons b L ih =>
        intro hq e m g
        cases hq with
        | nil => cases e
        | cons q hq =>
          obtain ⟨q', t, u, e1, e2⟩ := g 0 b rfl
          cases e1
          exact .cons ⟨b, t, u, rfl, m b List.mem_cons_self, e2⟩ (ih hq (Nat.succ.inj e) (fun c mc => m c (List.mem_cons_of_mem _ mc)) fun j c hc => g (j + 1) c hc)
    exact pr2 as hp hl (fun _ m => m) pr
  have er : PySem.W.EachIs (fun v b => ∃ as, Reads h2 v (pairI b) as ∧ h'.objs.size ∉ as) (as.map Value.ref) hp := by
    refine each_of_paired (paired_mp (fun v q hR => ?_) e0)
    obtain ⟨b, t, u, rfl, _, g⟩ := hR
    exact ⟨_, Reads.tuple (ka _ _ g) rfl rfl (.cons (.int _ _) (.cons (.int _ _) .nil)), by simp⟩
  have hal := PySem.W.AllAlike.of (enc := pairI) (bs := hp) fun b b' => by simp [pairI, PySem.W.alike, PySem.W.alikeAll]
  refine PySem.W.list_sort_data (s := { s with heap := h2, toks := tk }) (enc := pairI) hob (each_of_paired e0) er hal (PySem.W.Sortable.tuples fun b => ⟨_, _, rfl⟩) zh (fun b _ => ?_) fun out ho eo => ?_
  · have e : (pairI b).depth = 1 := by simp [pairI, PyData.depth, PyData.depthAll]
    rw [e]
    show X.A.units + 1 + 1 + 1 < cLine
    omega
  · show EP X pins σ Q (.ref h'.objs.size) { s with heap := sortedHeap h2 h'.objs.size (as.map Value.ref) (List.toArray out), toks := tk }
    obtain ⟨ts, rfl, pt⟩ := refs_pair (fun u b h => let ⟨t, _, _, e, _⟩ := h; ⟨t, e⟩) (paired_of_each eo)
    have kF : ∀ b o, b ≠ h'.objs.size → h2.get? b = some o → (sortedHeap h2 h'.objs.size (as.map Value.ref) (List.toArray (ts.map Value.ref))).get? b = some o := fun b o hb e => (PyProof.Rows.sortedHeap_old hb (Heap.lt_size e)).trans e
    have kS : ∀ b o, s.heap.get? b = some o → (sortedHeap h2 h'.objs.size (as.map Value.ref) (List.toArray (ts.map Value.ref))).get? b = some o := fun b o e => kF b o (ne0 _ _ (hk b o e)) (ka _ _ (hk b o e))
    obtain ⟨eF, heF⟩ := PyProof.Rows.sortedHeap_at (vs := as.map Value.ref) (out := List.toArray (ts.map Value.ref)) hob
    have I1 : Inv X pins σ H { s with heap := sortedHeap h2 h'.objs.size (as.map Value.ref) (List.toArray (ts.map Value.ref)), toks := tk } := I.kept (t' := tk) kS
    have hn0 : H h'.objs.size = none := I.hok.fresh (Nat.le_of_lt hlt)
    have lt : ts.length = hp.length := by
      have := ho
      rw [List.length_map] at this
      exact this
    have I2 : Inv X pins σ (upd H h'.objs.size (.lst (ts.map V.ref))) { s with heap := sortedHeap h2 h'.objs.size (as.map Value.ref) (List.toArray (ts.map Value.ref)), toks := tk } :=
      I1.take (h' := sortedHeap h2 h'.objs.size (as.map Value.ref) (List.toArray (ts.map Value.ref))) (t' := tk) (fun b ob _ e => e) (I.fpOk (Nat.le_of_lt hlt) hn0) ⟨by rw [List.length_map, lt]; exact zh, ts.map Value.ref, eF, LiI.vals_refs ts, heF⟩
    have above : ∀ b ∈ as, s.heap.objs.size ≤ b ∧ H b = none := fun b hb => ⟨Nat.le_of_lt (hG.above b hb), I.hok.fresh (Nat.le_of_lt (hG.above b hb))⟩
    obtain ⟨H2, I3, g, qt⟩ := takeT (P := fun b vs => ∀ q : Int × Int, (∃ t u, h'.get? b = some { cls := .type "tuple", data := .seq #[.int q.1 t, .int q.2 u] }) → vs = [.int q.1, .int q.2]) I as _ I2 nd fun b hb => by
      obtain ⟨j, hj⟩ := List.mem_iff_getElem?.mp hb
      obtain ⟨q, t, u, hq, hg⟩ := pr j b hj
      refine ⟨(above b hb).1, ?_, [.int q.1, .int q.2], fun q2 ⟨t2, u2, g2⟩ => ?_, fun H2 => ⟨by show 2 ≤ sizeLine; decide, [.int q.1 t, .int q.2 u], .cons ⟨t, rfl⟩ (.cons ⟨u, rfl⟩ .nil), ⟨_, kF b _ (ne0 _ _ hg) (ka _ _ hg), rfl, _, rfl⟩⟩⟩
      · rw [upd_ne (ne0 _ _ hg)]
        exact (above b hb).2
      · rw [hg] at g2
        have g3 := Option.some.inj g2
        have g4 : PySem.Data.seq #[.int q.1 t, .int q.2 u] 0 = PySem.Data.seq #[.int q2.1 t2, .int q2.2 u2] 0 := congrArg Obj.data g3
        injection g4 with g5
        have g6 : [Value.int q.1 t, Value.int q.2 u] = [Value.int q2.1 t2, Value.int q2.2 u2] := congrArg Array.toList g5
        injection g6 with g7 g8
        injection g8 with g9
        injection g7 with g7
        injection g9 with g9
        rw [g7, g9]
    refine ⟨.ref h'.objs.size, H2, I3, rfl, q H2 _ ts (fun b o e => g b o (by rw [upd_ne (ne_of_none e hn0)]; exact e)) hn0 (g _ _ upd_same) (paired_mp (fun t b hR => ?_) pt) fun t ht => ?_⟩
    · obtain ⟨b', t', u', e, m, hg⟩ := hR
      cases e
      obtain ⟨vs, hv, hq⟩ := qt t m
      rw [hq, hv b ⟨t', u', hg⟩]
    · have hp2 := Paired.mapP pt fun a b h => h
      have : t ∈ as := by
        obtain ⟨b, hR⟩ := paired_left pt ht
        obtain ⟨_, _, _, e, m, _⟩ := hR
        cases e
        exact m
      exact (above t this).2
end
end L2

/-! dict(zip(xs, range(n))), xs a list of n ints. -/
namespace L2.Zr
open PySem PySem.Spec PyProof.Rows L2.Zx
section
variable {prog : Program} {w : World} {A : Around} {E : Value → Shared → Prop} {s : Shared}
theorem next_rng {it : Addr} {x left : Int} {Q : Value → Shared → Prop} (hit : IsRangeIter s.heap it x left 1) (hleft : 0 < left)
    (hQ : ∀ h', IsRangeIter h' it (x + 1) (left - 1) 1 → Heap.SameBut it s.heap h' → Q (.int x s.toks) { s with heap := h', toks := s.toks + 1 }) :
    wpAny (model prog w) A (Builtin.SmallTypes.nextOf (.ref it)) Q E s := by
  have hT : s.TypeIs (.ref it) "range_iterator" := ⟨_, hit, rfl⟩
  unfold Builtin.SmallTypes.nextOf
  refine wpAny_bind (wpAny_callSpecial?_slot (name := Str.ofString "__next__") hT F.slot_range_iterator_next
    (call_meets F.slot_range_iterator_next hT F.entry_range_iterator_next (F.args_range_iterator_next_1 _) (AutoRange.range_iterator___next___range_iterator_1 it x left 1 (by omega)) ⟨hit, ?_⟩))
  exact wpAny_pure (hQ _ (Heap.get?_update_self _ (Heap.get?_update_self _ hit rfl) rfl) ((Heap.SameBut.update ..).trans (Heap.SameBut.update ..)))
theorem item_out {z TI TO i1 i2 l1 a : Addr} {f : Bool} {oa : Obj} {k : Nat} {lo left : Int} {xs : Array Value} {x : Value} {Q : Option Value → Shared → Prop} (D : ZipApart z TI TO i1 i2 l1 l1)
    (hz : ZipF s.heap z TI TO a f) (ha : s.heap.get? a = some oa) (hTI : IsPair s.heap TI (.ref i1) (.ref i2))
    (h1 : s.heap.IsListIter i1 l1 k) (h2 : IsRangeIter s.heap i2 lo left 1) (hl1 : s.heap.IsList l1 xs) (hx : xs[k]? = some x) (hy : 0 < left)
    (hQ : ∀ h', ZipF h' z TI TO a true → h'.IsListIter i1 l1 (k + 1) → IsRangeIter h' i2 (lo + 1) (left - 1) 1 → IsPair h' s.heap.objs.size x (.int lo s.toks) →
      (∀ c o, c ≠ z → c ≠ i1 → c ≠ i2 → s.heap.get? c = some o → h'.get? c = some o) → Q (some (.ref s.heap.objs.size)) { s with heap := h', toks := s.toks + 1 }) :
    wpAny (model prog w) A (pyNext (.ref z)) Q E s := by
  have hT : s.TypeIs (.ref z) "zip" := ⟨_, hz, rfl⟩
  unfold pyNext
  refine wpAny_bind (wpAny_attempt (wpAny_callSpecial?_slot (name := Str.ofString "__next__") hT F.slot_zip_next
    (wpAny_call_entry F.slot_zip_next hT F.entry_zip_next ?_ (F.args_zip_next_1 _))))
  show wpAny _ _ (field (.ref z) 2 >>= _) _ _ _
  refine wpAny_bind (wpAny_field hz rfl (x := .bool false) rfl ?_)
  show wpAny _ _ (field (.ref z) 3 >>= _) _ _ _
  refine wpAny_bind (wpAny_field hz rfl (x := .ref TI) rfl ?_)
  refine wpAny_bind (wpAny_seqItems hTI rfl ?_)
  show wpAny _ _ (Builtin.SmallTypes.ownedTupleIsFree (.ref z) >>= _) _ _ _
  refine wpAny_bind (owned_out hz ha fun h₃ hz₃ hs₃ => ?_)
  simp only [Bool.false_eq_true, if_false]
  rw [← Array.forIn_toList]
  simp only [List.forIn_cons, List.forIn_nil]
  refine wpAny_bind ?_
  refine wpAny_bind ?_
  refine wpAny_bind (wpAny_holding ?_)
  show wpAny _ _ (Builtin.SmallTypes.nextOf (.ref i1) >>= _) _ _ _
  refine wpAny_bind (wpAny_nextOf_list_item (h1.extBut hs₃.extBut D.i1z) (hl1.extBut hs₃.extBut D.l1z) hx fun h₄ h1₄ hs₄ => wpAny_pure ?_)
  refine wpAny_pure ?_
  dsimp only
  refine wpAny_bind ?_
  refine wpAny_bind (wpAny_holding ?_)
  show wpAny _ _ (Builtin.SmallTypes.nextOf (.ref i2) >>= _) _ _ _
  have h2₄ : IsRangeIter h₄ i2 lo left 1 := hs₄.extBut _ _ D.i12.symm (hs₃.extBut _ _ D.i2z h2)
  refine wpAny_bind (next_rng (s := { s with heap := h₄ }) h2₄ hy fun h₅ h2₅ hs₅ => wpAny_pure ?_)
  refine wpAny_pure ?_
  dsimp only
  refine wpAny_pure ?_
  dsimp only
  refine wpAny_bind (wpAny_newTuple (hsz := by show 2 ≤ sizeLine; decide) ?_)
  have up : ∀ c o, c ≠ z → c ≠ i1 → c ≠ i2 → s.heap.get? c = some o → h₅.get? c = some o := fun c o c1 c2 c3 e => hs₅.extBut _ _ c3 (hs₄.extBut _ _ c2 (hs₃.extBut _ _ c1 e))
  have hsz : h₅.objs.size = s.heap.objs.size := by rw [hs₅.1, hs₄.1, hs₃.1]
  refine wpAny_pure ⟨_, rfl, wpAny_pure ?_⟩
  show Q (some (.ref h₅.objs.size)) _
  have hz₅ : ZipF h₅ z TI TO a true := hs₅.extBut _ _ D.i2z.symm (hs₄.extBut _ _ D.i1z.symm hz₃)
  have h1₅ : h₅.IsListIter i1 l1 (k + 1) := h1₄.extBut hs₅.extBut D.i12
  have hT₆ : IsPair (h₅.push { cls := .type "tuple", data := .seq #[x, .int lo s.toks] }) h₅.objs.size x (.int lo s.toks) := Heap.get?_push_size _ rfl
  rw [hsz] at hT₆ ⊢
  exact hQ _ (Heap.get?_push_of_some _ hz₅) (h1₅.at fun o e => Heap.get?_push_of_some _ e) (Heap.get?_push_of_some _ h2₅) hT₆ fun c o c1 c2 c3 e => Heap.get?_push_of_some _ (up c o c1 c2 c3 e)
theorem item_new {z TI TO i1 i2 l1 : Addr} {k : Nat} {lo left : Int} {xs : Array Value} {x a b : Value} {Q : Option Value → Shared → Prop} (D : ZipApart z TI TO i1 i2 l1 l1)
    (hz : IsZip s.heap z TI TO .none) (hTI : IsPair s.heap TI (.ref i1) (.ref i2)) (hTO : IsPair s.heap TO a b)
    (h1 : s.heap.IsListIter i1 l1 k) (h2 : IsRangeIter s.heap i2 lo left 1) (hl1 : s.heap.IsList l1 xs) (hx : xs[k]? = some x) (hy : 0 < left)
    (hQ : ∀ h', ZipF h' z TI TO s.heap.objs.size false → h'.IsListIter i1 l1 (k + 1) → IsRangeIter h' i2 (lo + 1) (left - 1) 1 → IsPair h' s.heap.objs.size x (.int lo s.toks) →
      (∀ c o, c ≠ z → c ≠ TO → c ≠ i1 → c ≠ i2 → s.heap.get? c = some o → h'.get? c = some o) → Q (some (.ref s.heap.objs.size)) { s with heap := h', toks := s.toks + 1 }) :
    wpAny (model prog w) A (pyNext (.ref z)) Q E s := by
  have hT : s.TypeIs (.ref z) "zip" := ⟨_, hz, rfl⟩
  unfold pyNext
  refine wpAny_bind (wpAny_attempt (wpAny_callSpecial?_slot (name := Str.ofString "__next__") hT F.slot_zip_next
    (wpAny_call_entry F.slot_zip_next hT F.entry_zip_next ?_ (F.args_zip_next_1 _))))
  show wpAny _ _ (field (.ref z) 2 >>= _) _ _ _
  refine wpAny_bind (wpAny_field hz rfl (x := .bool false) rfl ?_)
  show wpAny _ _ (field (.ref z) 3 >>= _) _ _ _
  refine wpAny_bind (wpAny_field hz rfl (x := .ref TI) rfl ?_)
  refine wpAny_bind (wpAny_seqItems hTI rfl ?_)
  show wpAny _ _ (Builtin.SmallTypes.ownedTupleIsFree (.ref z) >>= _) _ _ _
  refine wpAny_bind ?_
  unfold Builtin.SmallTypes.ownedTupleIsFree
  refine wpAny_bind (wpAny_field hz rfl (x := .none) rfl (wpAny_pure ?_))
  simp only [if_true]
  refine wpAny_bind (wpAny_rule ?_)
  refine wpAny_bind (wpAny_field hz rfl (x := .ref TO) rfl ?_)
  refine wpAny_bind (wpAny_setField_rec hz (by simp) fun g₁ hz₁ hs₁ => ?_)
  replace hz₁ : IsZip g₁ z TI TO .ellipsis := hz₁
  refine wpAny_bind ?_
  simp only [List.zipIdx_cons, List.zipIdx_nil, List.forIn_cons, List.forIn_nil]
  refine wpAny_bind (wpAny_bind (wpAny_onRaise ?_))
  show wpAny _ _ (Builtin.SmallTypes.nextOf (.ref i1) >>= _) _ _ _
  refine wpAny_bind (wpAny_nextOf_list_item (h1.extBut hs₁.extBut D.i1z) (hl1.extBut hs₁.extBut D.l1z) hx fun g₂ h1₂ hs₂ => wpAny_pure ?_)
  have hTO₂ : IsPair g₂ TO a b := hs₂.extBut _ _ D.TOi1 (hs₁.extBut _ _ D.TOz hTO)
  refine wpAny_bind (wpAny_seqItems hTO₂ rfl ?_)
  refine wpAny_bind (wpAny_updateSeq_pair hTO₂ fun g₃ hTO₃ hs₃ => ?_)
  replace hTO₃ : IsPair g₃ TO x b := hTO₃
  refine wpAny_bind (wpAny_letGo (wpAny_pure ?_))
  refine wpAny_bind (wpAny_bind (wpAny_onRaise ?_))
  show wpAny _ _ (Builtin.SmallTypes.nextOf (.ref i2) >>= _) _ _ _
  have h2₃ : IsRangeIter g₃ i2 lo left 1 := hs₃.extBut _ _ D.TOi2.symm (hs₂.extBut _ _ D.i12.symm (hs₁.extBut _ _ D.i2z h2))
  refine wpAny_bind (next_rng (s := { s with heap := g₃ }) h2₃ hy fun g₄ h2₄ hs₄ => wpAny_pure ?_)
  have hTO₄ : IsPair g₄ TO x b := hs₄.extBut _ _ D.TOi2 hTO₃
  refine wpAny_bind (wpAny_seqItems hTO₄ rfl ?_)
  refine wpAny_bind (wpAny_updateSeq_pair (s := { s with heap := g₄, toks := s.toks + 1 }) hTO₄ fun g₅ hTO₅ hs₅ => ?_)
  replace hTO₅ : IsPair g₅ TO x (.int lo s.toks) := hTO₅
  refine wpAny_bind (wpAny_letGo (wpAny_pure (wpAny_pure ?_)))
  refine wpAny_bind (wpAny_seqItems hTO₅ rfl ?_)
  refine wpAny_bind (wpAny_newTuple ?_)
  have hsz : g₅.objs.size = s.heap.objs.size := by rw [hs₅.1, hs₄.1, hs₃.1, hs₂.1, hs₁.1]
  have hz₅ : IsZip g₅ z TI TO .ellipsis := hs₅.extBut _ _ D.TOz.symm (hs₄.extBut _ _ D.i2z.symm (hs₃.extBut _ _ D.TOz.symm (hs₂.extBut _ _ D.i1z.symm hz₁)))
  have up : ∀ c o, c ≠ z → c ≠ TO → c ≠ i1 → c ≠ i2 → s.heap.get? c = some o → g₅.get? c = some o := fun c o c1 c2 c3 c4 e => hs₅.extBut _ _ c2 (hs₄.extBut _ _ c4 (hs₃.extBut _ _ c2 (hs₂.extBut _ _ c3 (hs₁.extBut _ _ c1 e))))
  have h1₅ : g₅.IsListIter i1 l1 (k + 1) := ((h1₂.extBut hs₃.extBut D.TOi1.symm).extBut hs₄.extBut D.i12).extBut hs₅.extBut D.TOi1.symm
  have h2₅ : IsRangeIter g₅ i2 (lo + 1) (left - 1) 1 := hs₅.extBut _ _ D.TOi2.symm h2₄
  have zlt : z < g₅.objs.size := Heap.lt_size hz₅
  show wpAny _ _ (Builtin.SmallTypes.ownedTupleHandOut (.ref z) (.ref g₅.objs.size) >>= _) _ _ _
  refine wpAny_bind ?_
  unfold Builtin.SmallTypes.ownedTupleHandOut
  have hz₆ : IsZip (g₅.push { cls := .type "tuple", data := .seq #[x, .int lo s.toks] }) z TI TO .ellipsis := Heap.get?_push_of_some _ hz₅
  refine wpAny_bind (wpAny_setField_rec hz₆ (by simp) fun g₇ hz₇ hs₇ => ?_)
  replace hz₇ : IsZip g₇ z TI TO (rawInt g₅.objs.size) := hz₇
  refine wpAny_setField_rec hz₇ (by simp) fun g₈ hz₈ hs₈ => ?_
  replace hz₈ : ZipF g₈ z TI TO g₅.objs.size false := hz₈
  have up2 : ∀ c o, c ≠ z → g₅.get? c = some o → g₈.get? c = some o := fun c o c1 e => hs₈.extBut _ _ c1 (hs₇.extBut _ _ c1 (Heap.get?_push_of_some _ e))
  have hT₈ : IsPair g₈ g₅.objs.size x (.int lo s.toks) := hs₈.extBut _ _ (Nat.ne_of_gt zlt) (hs₇.extBut _ _ (Nat.ne_of_gt zlt) (Heap.get?_push_size _ rfl))
  rw [hsz] at hz₈ hT₈
  refine wpAny_pure ⟨_, rfl, wpAny_pure ?_⟩
  show Q (some (.ref g₅.objs.size)) _
  rw [hsz]
  exact hQ g₈ hz₈ (h1₅.at fun o e => up2 _ o D.i1z e) (up2 _ _ D.i2z h2₅) hT₈ fun c o c1 c2 c3 c4 e => up2 c o c1 (up c o c1 c2 c3 c4 e)
end
section
variable {prog : Program} {w : World}
theorem arg (z TI TO i1 i2 l1 : Addr) (D : ZipApart z TI TO i1 i2 l1 l1) (xs : Array Value) (n : Nat) (hn : xs.size = n) (h0 : 0 < n) :
    PairArg prog w "zip" z [z, TI, TO, i1, i2, l1] [z, TO, i1, i2] n (fun i k v => xs[i]? = some k ∧ ∃ t, v = .int (i : Int) t)
      (fun h => IsZip h z TI TO .none ∧ IsPair h TI (.ref i1) (.ref i2) ∧ (∃ a b, IsPair h TO a b) ∧ h.IsListIter i1 l1 0 ∧ IsRangeIter h i2 0 n 1 ∧ h.IsList l1 xs) where
  type := fun s ok => ⟨_, ok.1, rfl⟩
  notDict := by decide
  keep := fun h h' ok hk => by
    obtain ⟨hz, hTI, ⟨a, b, hTO⟩, h1, h2, hl1⟩ := ok
    exact ⟨hk _ _ hz, hk _ _ hTI, ⟨a, b, hk _ _ hTO⟩, h1.at fun o e => hk _ o e, hk _ _ h2, hl1.at fun o e => hk _ o e⟩
  there := fun h ok b hb => by
    obtain ⟨hz, hTI, ⟨a, c, hTO⟩, ⟨o1, h1, _⟩, h2, ⟨o3, hl1, _⟩⟩ := ok
    simp only [List.mem_cons, List.not_mem_nil, or_false] at hb
    rcases hb with rfl | rfl | rfl | rfl | rfl | rfl
    all_goals first | exact ⟨_, hz⟩ | exact ⟨_, hTI⟩ | exact ⟨_, hTO⟩ | exact ⟨_, h1⟩ | exact ⟨_, h2⟩ | exact ⟨_, hl1⟩
  sub := fun b hb => by simp at hb ⊢; rcases hb with rfl | rfl | rfl | rfl <;> simp
  noKeys := fun A s Q E hA ok h => getAttrOr_miss_zip ok.1 rfl rfl rfl zip_no_keys (by decide +kernel) hA h
  iter := fun A s d Q E hA ok hd hdf h => by
    obtain ⟨hz, hTI, ⟨a, b, hTO⟩, h1, h2, hl1⟩ := ok
    simp only [List.mem_cons, List.not_mem_nil, or_false, not_or] at hdf
    obtain ⟨dz, dTI, dTO, di1, di2, dl1⟩ := hdf
    refine wpAny_pyIter_zip hz (h z [z, TO, i1, i2] (fun i h => IsPair h TI (.ref i1) (.ref i2) ∧ h.IsListIter i1 l1 i ∧ IsRangeIter h i2 i ((n : Int) - i) 1 ∧ h.IsList l1 xs ∧
      ((i = 0 ∧ IsZip h z TI TO .none ∧ ∃ a b, IsPair h TO a b) ∨ (0 < i ∧ ∃ T f oT, ZipF h z TI TO T f ∧ h.get? T = some oT ∧ T ≠ z ∧ T ≠ i1 ∧ T ≠ i2 ∧ T ≠ d))) s.heap s.toks ?_
      ⟨hTI, h1, by simpa using h2, hl1, .inl ⟨rfl, hz, a, b, hTO⟩⟩ (fun _ _ e => e) fun b hb => .inl hb)
    exact {
      off := fun hm => by
        simp only [List.mem_cons, List.not_mem_nil, or_false] at hm
        rcases hm with e | e | e | e
        · exact dz e
        · exact dTO e
        · exact di1 e
        · exact di2 e
      frame := fun i g g' st hk => by
        obtain ⟨hTI, h1, h2, hl1, hz⟩ := st
        refine ⟨hk _ _ (Ne.symm dTI) hTI, h1.at fun o e => hk _ o (Ne.symm di1) e, hk _ _ (Ne.symm di2) h2, hl1.at fun o e => hk _ o (Ne.symm dl1) e, ?_⟩
        rcases hz with ⟨i0, hz, a, b, hTO⟩ | ⟨i0, T, f, oT, hz, hT, r1, r2, r3, r4⟩
        · exact .inl ⟨i0, hk _ _ (Ne.symm dz) hz, a, b, hk _ _ (Ne.symm dTO) hTO⟩
        · exact .inr ⟨i0, T, f, oT, hk _ _ (Ne.symm dz) hz, hk _ _ r4 hT, r1, r2, r3, r4⟩
      item := fun i s₁ Q₁ E₁ hi st hds hQ => by
        obtain ⟨hTI, h1, h2, hl1, hz⟩ := st
        have ex := Array.getElem?_eq_getElem (xs := xs) (i := i) (by omega)
        have lt : ∀ {c o}, s₁.heap.get? c = some o → s₁.heap.objs.size ≠ c := fun e => Nat.ne_of_gt (Heap.lt_size e)
        have n1 : s₁.heap.objs.size ≠ i1 := let ⟨_, e, _⟩ := h1; lt e
        have n2 : s₁.heap.objs.size ≠ i2 := lt h2
        have e1 : ((i : Int) + 1) = ((i + 1 : Nat) : Int) := by omega
        have e2 : (n : Int) - i - 1 = (n : Int) - ((i + 1 : Nat) : Int) := by omega
        rcases hz with ⟨i0, hz, a, b, hTO⟩ | ⟨i0, T, f, oT, hz, hT, r1, r2, r3, r4⟩
        · refine item_new D hz hTI hTO h1 h2 hl1 ex (by omega) fun g a1 a3 a4 a5 hk => ?_
          rw [e1, e2] at a4
          exact hQ s₁.heap.objs.size _ _ g _ ⟨ex, _, rfl⟩ (.inl ⟨_, a5, rfl, _, rfl⟩)
            ⟨hk _ _ D.TIz D.TITO D.TIi1 D.TIi2 hTI, a3, a4, hl1.at fun o e => hk _ o D.l1z D.l1TO D.l1i1 D.l1i2 e, .inr ⟨Nat.succ_pos i, s₁.heap.objs.size, false, _, a1, a5, lt hz, n1, n2, Nat.ne_of_gt hds⟩⟩
            fun c o hc e => hk c o (fun x => hc (by simp [x])) (fun x => hc (by simp [x])) (fun x => hc (by simp [x])) (fun x => hc (by simp [x])) e
        · refine item_out D hz hT hTI h1 h2 hl1 ex (by omega) fun g a1 a3 a4 a5 hk => ?_
          rw [e1, e2] at a4
          exact hQ s₁.heap.objs.size _ _ g _ ⟨ex, _, rfl⟩ (.inl ⟨_, a5, rfl, _, rfl⟩)
            ⟨hk _ _ D.TIz D.TIi1 D.TIi2 hTI, a3, a4, hl1.at fun o e => hk _ o D.l1z D.l1i1 D.l1i2 e, .inr ⟨Nat.succ_pos i, T, true, oT, a1, hk _ _ r1 r2 r3 hT, r1, r2, r3, r4⟩⟩
            fun c o hc e => hk c o (fun x => hc (by simp [x])) (fun x => hc (by simp [x])) (fun x => hc (by simp [x])) e
      done := fun s₁ Q₁ E₁ st hQ => by
        obtain ⟨hTI, h1, h2, hl1, hz⟩ := st
        rcases hz with ⟨i0, _⟩ | ⟨i0, T, f, oT, hz, hT, r1, r2, r3, r4⟩
        · omega
        · exact end_out hA D hz hT hTI h1 hl1 (Array.getElem?_eq_none (by omega)) fun g hk => hQ g s₁.toks fun c o hc e => hk c o (fun x => hc (by simp [x])) (fun x => hc (by simp [x])) e }
end
end L2.Zr

/-! zip(xs, range(n)) is made; dict of it. -/
namespace L2.Zr
open PySem PySem.Spec PyProof.Rows L2.Zx
abbrev g1 (h : Heap) (l1 : Addr) : Heap := h.push { cls := .type "list_iterator", data := .fields #[.ref l1, .int 0 0] }
abbrev g2 (h : Heap) (l1 : Addr) (n : Int) : Heap := (g1 h l1).push { cls := .type "range_iterator", data := .fields #[rawInt 0, rawInt n, rawInt 1] }
abbrev g3 (h : Heap) (l1 : Addr) (n : Int) : Heap := (g2 h l1 n).push { cls := .type "tuple", data := .seq #[.ref h.objs.size, .ref (g1 h l1).objs.size] }
abbrev g4 (h : Heap) (l1 : Addr) (n : Int) : Heap := (g3 h l1 n).push { cls := .type "tuple", data := .seq #[.none, .none] }
abbrev g5 (h : Heap) (l1 : Addr) (n : Int) : Heap := (g4 h l1 n).push { cls := .type "zip", data := .fields #[.none, .bool false, .bool false, .ref (g2 h l1 n).objs.size, .ref (g3 h l1 n).objs.size] }
theorem zip_made (l1 r : Addr) (xs : Array Value) (n : Int) (t u v : Tok) (hs : Builtin.Range.small 0 n 1 = true) (hz : Builtin.Range.rangeSize 0 n 1 = n) :
    Meets (Builtin.«zip.__new__» ⟨[.type "zip", .ref l1, .ref r], []⟩) (fun _ R s => s.heap.IsList l1 xs ∧ IsRange s.heap r 0 n 1 t u v ∧
      R (.ok (.ret (.ref (g4 s.heap l1 n).objs.size))) { s with heap := g5 s.heap l1 n }) :=
  .of_wp fun prog w A R s h => by
    obtain ⟨hp, g, d, tk, os⟩ := s; obtain ⟨hl1, hr, h⟩ := h
    have hsub := sub_zip
    have hL1 : Heap.IsList (Shared.heap ⟨hp, g, d, tk, os⟩) l1 xs := hl1
    have hR : IsRange (Shared.heap ⟨hp.push { cls := .type "list_iterator", data := .fields #[.ref l1, .int 0 0] }, g, d, tk, os⟩) r 0 n 1 t u v := Heap.get?_push_of_some _ hr
    wp_walk using wpAny_pyIter_list hL1, wpAny_pyIter_range hR hs
    rw [hz]
    exact ⟨_, rfl, h⟩
section
variable {prog : Program} {w : World} {A : Around} {E : Value → Shared → Prop} {s : Shared}
theorem call_zip_rng {l1 r : Addr} {xs : Array Value} {n : Int} {t u v : Tok} {Q : Value → Shared → Prop} (hl1 : s.heap.IsList l1 xs) (hr : IsRange s.heap r 0 n 1 t u v) (hs : Builtin.Range.small 0 n 1 = true) (hz : Builtin.Range.rangeSize 0 n 1 = n)
    (h : ∀ h', IsZip h' (s.heap.objs.size + 4) (s.heap.objs.size + 2) (s.heap.objs.size + 3) .none → IsPair h' (s.heap.objs.size + 2) (.ref s.heap.objs.size) (.ref (s.heap.objs.size + 1)) →
      IsPair h' (s.heap.objs.size + 3) .none .none → h'.IsListIter s.heap.objs.size l1 0 → IsRangeIter h' (s.heap.objs.size + 1) 0 n 1 → h'.objs.size = s.heap.objs.size + 5 →
      (∀ c o, s.heap.get? c = some o → h'.get? c = some o) → Q (.ref (s.heap.objs.size + 4)) { s with heap := h' }) :
    wpAny (model prog w) A (call (.type "zip") [.ref l1, .ref r]) Q E s := by
  refine callType_new F.called_zip (by decide) (F.typeCall_zip_2 _ _) (F.newCall_zip_2 _ _) (fun obj => F.args_object_init_3 obj _ _) F.entry_zip_new (zip_made l1 r xs n t u v hs hz) ⟨hl1, hr, ?_⟩
  have z1 : (g1 s.heap l1).objs.size = s.heap.objs.size + 1 := Heap.size_push ..
  have z2 : (g2 s.heap l1 n).objs.size = s.heap.objs.size + 2 := by rw [Heap.size_push, z1]
  have z3 : (g3 s.heap l1 n).objs.size = s.heap.objs.size + 3 := by rw [Heap.size_push, z2]
  have z4 : (g4 s.heap l1 n).objs.size = s.heap.objs.size + 4 := by rw [Heap.size_push, z3]
  have z5 : (g5 s.heap l1 n).objs.size = s.heap.objs.size + 5 := by rw [Heap.size_push, z4]
  have e5 : (g5 s.heap l1 n).get? (g4 s.heap l1 n).objs.size = some _ := Heap.get?_push_size _ rfl
  have e4 : (g5 s.heap l1 n).get? (g3 s.heap l1 n).objs.size = some _ := Heap.get?_push_of_some _ (Heap.get?_push_size _ rfl)
  have e3 : (g5 s.heap l1 n).get? (g2 s.heap l1 n).objs.size = some _ := Heap.get?_push_of_some _ (Heap.get?_push_of_some _ (Heap.get?_push_size _ rfl))
  have e2 : (g5 s.heap l1 n).get? (g1 s.heap l1).objs.size = some _ := Heap.get?_push_of_some _ (Heap.get?_push_of_some _ (Heap.get?_push_of_some _ (Heap.get?_push_size _ rfl)))
  have e1 : (g5 s.heap l1 n).get? s.heap.objs.size = some _ := Heap.get?_push_of_some _ (Heap.get?_push_of_some _ (Heap.get?_push_of_some _ (Heap.get?_push_of_some _ (Heap.get?_push_size _ rfl))))
  show _ ∧ _
  rw [z2, z3, z4] at e5
  rw [z1, z2] at e3
  rw [z3] at e4
  rw [z1] at e2
  rw [z4]
  exact ⟨⟨_, e5, rfl⟩, h _ e5 e3 e4 ⟨_, e1, rfl, rfl⟩ e2 z5 fun c o x => Heap.get?_push_of_some _ (Heap.get?_push_of_some _ (Heap.get?_push_of_some _ (Heap.get?_push_of_some _ (Heap.get?_push_of_some _ x))))⟩
end
def rows (ns : List Int) (vs : List Value) : List (Key × Value) := (ns.zip vs).map fun q => (.inl q.1, q.2)
theorem rows_len (ns : List Int) (vs : List Value) : (rows ns vs).length ≤ vs.length := by
  unfold rows
  rw [List.length_map, List.length_zip]
  exact Nat.min_le_right _ _
theorem rows_snoc : ∀ {ns : List Int} {vs : List Value} {n : Int} {v : Value}, ns[vs.length]? = some n → rows ns (vs ++ [v]) = rows ns vs ++ [(.inl n, v)]
  | [], _, _, _, h => by cases h
  | m :: ns, [], n, v, h => by
    cases h
    show rows (m :: ns) [v] = [(.inl m, v)]
    unfold rows
    rw [List.zip_cons_cons, List.zip_nil_right]
    rfl
  | m :: ns, u :: vs, n, v, h => by
    have ih := rows_snoc (ns := ns) (vs := vs) (n := n) (v := v) (by simpa using h)
    show rows (m :: ns) (u :: (vs ++ [v])) = _
    unfold rows at ih ⊢
    rw [List.zip_cons_cons, List.map_cons, ih, List.zip_cons_cons, List.map_cons]
    rfl
theorem rows_rel : ∀ {ns : List Int} {k : Nat} (vs : List Value), vs.length = ns.length → (∀ (j : Nat) (v : Value), vs[j]? = some v → ∃ t, v = Value.int ((k + j : Nat) : Int) t) → KV ((ns.zipIdx k).map fun q => ((.inl q.1 : Key), V.int (q.2 : Int))) (rows ns vs)
  | [], _, vs, _, _ => by
    unfold rows
    rw [List.zip_nil_left]
    exact .nil
  | n :: ns, k, [], e, _ => by cases e
  | n :: ns, k, v :: vs, e, h => by
    obtain ⟨t, ht⟩ := h 0 v rfl
    rw [List.zipIdx_cons, List.map_cons]
    have ih := rows_rel (ns := ns) (k := k + 1) vs (Nat.succ.inj e) fun j u hj => by
      obtain ⟨t, e⟩ := h (j + 1) u hj
      exact ⟨t, by rw [e]; congr 2; omega⟩
    unfold rows at ih ⊢
    rw [List.zip_cons_cons, List.map_cons]
    exact .cons ⟨rfl, t, by rw [ht]; rfl⟩ ih
end L2.Zr
namespace L2
open PySem PySem.Spec PyProof.Rows
section
variable {X : Cx}
/-- range(n) as a value -/
def rRng1 : List V → Hp → VK → Prop := fun vs H Q => ∃ n : Int, vs = [.int n] ∧ ∀ p, H p = none → Q (.ref p) (upd H p (.rng 0 n))
theorem cr_rng1 : CallR X (.type "range") rRng1 := by
  intro pins s σ H vs us Q I r h
  obtain ⟨n, rfl, q⟩ := h
  obtain ⟨u, rfl, ru⟩ := vals1 r
  obtain ⟨t, rfl⟩ := ru
  refine call_range_1 ⟨.ref s.heap.objs.size, upd H s.heap.objs.size (.rng 0 n), I.laid (t' := _) (fun b o e => Heap.get?_push_of_some _ e) (Nat.le_refl _) ?_, rfl, q _ (I.hok.fresh (Nat.le_refl _))⟩
  exact ⟨_, _, _, Heap.get?_push_size _ rfl⟩
/-- dict(zip(xs, range(n))), xs n ints -/
def rDictZipR (K : PySem.W.Frag) : List V → Hp → VK → Prop := fun zs H Q => ∃ (a b : Addr) (ns : List Int), zs = [.ref a, .ref b] ∧ SqL K H a (ns.map V.int) ∧ H b = some (.rng 0 (ns.length : Int)) ∧ 0 < ns.length ∧ ns.length ≤ 1000000 ∧
  ∀ p, H p = none → Q (.ref p) (upd H p (.dK (mergeK [] (ns.zipIdx.map fun q => ((.inl q.1 : Key), V.int (q.2 : Int))))))
def tDictZipR (K : PySem.W.Frag) (ta : TA) : TE := fun σ H Q => ta σ H fun zs H1 => rDictZipR K zs H1 Q
theorem pe_dictZipR {e e2 : Expr} {ta : TA} {p pz pz2 pos : Pos} (hc : X.calm = true) (hg : Gl X "dict") (hm : X.mg "dict" = none) (hgz : Gl X "zip") (hmz : X.mg "zip" = none) (ha : PA X [e, e2] ta) (hv : bootBuiltins "dict" = some (.type "dict") := by rfl)
    (hs : starEach [e, e2] X.env = (false, eval e X.env) :: starEach [e2] X.env := by rfl) (hpl : (backTo pz2 (starEach [e2] X.env)).any (·.1) = false := by rfl)
    (hs1 : starEach [.Call (.Name "zip" pz) [e, e2] [] pz2] X.env = (false, eval (.Call (.Name "zip" pz) [e, e2] [] pz2) X.env) :: starEach [] X.env := by rfl) :
    PE X (.Call (.Name "dict" p) [.Call (.Name "zip" pz) [e, e2] [] pz2] [] pos) (tDictZipR X.K ta) := by
  refine ⟨fun pins s σ H Q I hq => ?_⟩
  refine wpAny_Call_Name_kw (ld_blt I hg hm hv ?_)
  refine PyProof.Rows.callWith_type1 ?_ hs1 rfl
  rw [hs1]
  show wpAny _ _ (spliced ((false, eval (.Call (.Name "zip" pz) [e, e2] [] pz2) X.env) :: backTo pos (starEach [] X.env))) _ _ s
  refine Calls.spliced_cons ?_
  refine Call_ (ld_blt I hgz hmz PyProof.Rows.boot_zip (PyProof.Rows.callWith_type1 (thn (ha.run pz2 pins s σ H _ I hq) fun us s1 ⟨vs, H1, I1, r1, q1⟩ => ?_) hs hpl))
  obtain ⟨a, b, ns, ex, hqx, hqy, h0, hlen, q⟩ := q1
  subst ex
  cases r1 with
  | cons r rr =>
    cases rr with
    | cons r' rr =>
      cases rr
      cases r
      cases r'
      obtain ⟨its, rv, p1, z1⟩ := I1.list hqx
      obtain ⟨t, u, v, hr⟩ := (show ObjOk X.prog X.w H1 s1.heap b (.rng 0 (ns.length : Int)) from I1.hok b _ hqy)
      have la : a < s1.heap.objs.size := p1.lt
      have n1 := rv.length
      rw [List.length_map] at n1
      have hrs : Builtin.Range.rangeSize 0 (ns.length : Int) 1 = (ns.length : Int) := by
        rw [rangeSize_nat]
        omega
      refine Zr.call_zip_rng p1.isList hr (small_one (by omega) (by omega) (by omega) (by omega)) hrs fun h' hz hTI hTO h1 h2 hsz hk => ?_
      refine Calls.spliced_nil ?_
      have I2 : Inv X pins σ H1 { s1 with heap := h' } := I1.kept (t' := s1.toks) hk
      have D : ZipApart (s1.heap.objs.size + 4) (s1.heap.objs.size + 2) (s1.heap.objs.size + 3) s1.heap.objs.size (s1.heap.objs.size + 1) a a := PySem.W.ktu_apart s1.heap.objs.size a a la la
      have ez : its.toArray.size = ns.length := by rw [List.size_toArray]; exact n1.symm
      have ok0 : IsZip h' (s1.heap.objs.size + 4) (s1.heap.objs.size + 2) (s1.heap.objs.size + 3) .none ∧ IsPair h' (s1.heap.objs.size + 2) (.ref s1.heap.objs.size) (.ref (s1.heap.objs.size + 1)) ∧ (∃ a b, IsPair h' (s1.heap.objs.size + 3) a b) ∧ h'.IsListIter s1.heap.objs.size a 0 ∧ IsRangeIter h' (s1.heap.objs.size + 1) 0 ns.length 1 ∧ h'.IsList a its.toArray :=
        ⟨hz, hTI, ⟨_, _, hTO⟩, h1, h2, p1.isList.at fun o e => hk _ o e⟩
      have P0 := Zr.arg (prog := X.prog) (w := X.w) (s1.heap.objs.size + 4) (s1.heap.objs.size + 2) (s1.heap.objs.size + 3) s1.heap.objs.size (s1.heap.objs.size + 1) a D its.toArray ns.length ez h0
      refine PySem.call_dict_arg (s := { s1 with heap := h' }) P0 ok0 fun s₁ hs₁ hdf ok₁ => ?_
      subst hs₁
      have hzl : ns.length ≤ sizeLine := by
        rw [List.length_map] at z1
        exact z1
      refine PySem.updateFrom_arg (A := X.A.in1) (Tab := fun i h => ∃ vs : List Value, vs.length = i ∧ (∀ (j : Nat) (v : Value), vs[j]? = some v → ∃ t, v = Value.int (j : Int) t) ∧ h.DictOf (mixKind X.prog X.w) h'.objs.size (merged [] (Zr.rows ns vs))) P0 .none (I2.ok.hd hc) ok₁ hdf ⟨[], rfl, fun j v e => (by cases e), by rw [show Zr.rows ns [] = [] by unfold Zr.rows; rw [List.zip_nil_right]; rfl]; exact Heap.DictOf.new h'⟩ (fun _ _ ⟨_, _, _, tb⟩ => tb.lt_size)
        (fun i h g wr' hd _ ⟨vs, e1, e2, tb⟩ hk => ⟨vs, e1, e2, tb.at' fun o e => hk _ o hd e⟩) ?_ ?_
      · intro i key v s' Q' E' hi hrel ⟨vs, e1, e2, tb⟩ _ hQ
        obtain ⟨ek, t, rfl⟩ := hrel
        rw [List.getElem?_toArray] at ek
        obtain ⟨u, f1, f2⟩ := rv.get (i := i) (x := .int ns[i]) (by rw [List.getElem?_map, List.getElem?_eq_getElem hi]; rfl)
        rw [ek] at f1
        cases f1
        obtain ⟨t2, rfl⟩ := f2
        have hl : (merged [] (Zr.rows ns vs)).length ≤ vs.length := by
          refine Nat.le_trans (merged_length [] (Zr.rows ns vs)) ?_
          rw [List.length_nil, Nat.zero_add]
          exact Zr.rows_len ns vs
        refine wpAny_dictSet_pairs (hsz := by omega) (show (mixKind X.prog X.w).is (.inl ns[i]) (.int ns[i] t2) = true from keyIs_int _ t2) tb fun g hm' hs => ?_
        refine hQ g _ ⟨vs ++ [.int (i : Int) t], by rw [List.length_append, e1]; rfl, fun j v e => ?_, ?_⟩ hs
        · rcases Nat.lt_trichotomy j vs.length with h | h | h
          · rw [List.getElem?_append_left h] at e
            exact e2 j v e
          · subst h
            rw [List.getElem?_append_right (Nat.le_refl _), Nat.sub_self] at e
            cases e
            exact ⟨t, by rw [e1]⟩
          · rw [List.getElem?_eq_none (by rw [List.length_append, List.length_singleton]; omega)] at e
            cases e
        · rw [Zr.rows_snoc (n := ns[i]) (by rw [e1]; exact List.getElem?_eq_getElem hi)]
          unfold merged at hm' ⊢
          rw [List.foldl_append]
          exact hm'
      · rintro g tk ⟨vs, e1, e2, tb⟩ hk2
        refine ⟨rfl, ?_⟩
        have big : s1.heap.objs.size ≤ h'.objs.size := by rw [hsz]; exact Nat.le_add_right _ _
        have hm0 : (h'.objs.size == sysModules) = false := beq_eq_false_iff_ne.mpr (Nat.ne_of_gt I2.big)
        have rel := Zr.rows_rel (ns := ns) (k := 0) vs e1 (fun j v e => by obtain ⟨t, e⟩ := e2 j v e; exact ⟨t, by rw [Nat.zero_add]; exact e⟩)
        have hlen2 : (mergeK [] (ns.zipIdx.map fun q => ((.inl q.1 : Key), V.int (q.2 : Int)))).length ≤ sizeLine := by
          refine Nat.le_trans (length_mergeK _ []) ?_
          rw [List.length_nil, Nat.zero_add, List.length_map, List.length_zipIdx]
          exact hzl
        refine ⟨.ref h'.objs.size, upd H1 h'.objs.size (.dK (mergeK [] (ns.zipIdx.map fun q => ((.inl q.1 : Key), V.int (q.2 : Int))))), I1.laid (t' := tk) (fun c o e => ?_) big (show ObjOk X.prog X.w _ _ _ (.dK _) from ⟨hlen2, hm0, merged [] _, KV.merge rel .nil, tb⟩), rfl, q _ (I1.hok.fresh big)⟩
        have lc := Heap.lt_size e
        refine hk2 c o (fun m => ?_) (fun m => ?_) (Heap.get?_push_of_some _ (hk c o e))
        · rw [m, show ({ s1 with heap := h' } : Shared).heap.objs.size = s1.heap.objs.size + 5 from hsz] at lc
          exact Nat.lt_irrefl _ (Nat.lt_of_le_of_lt (Nat.le_add_right _ _) lc)
        · simp only [List.mem_cons, List.not_mem_nil, or_false] at m
          rcases m with rfl | rfl | rfl | rfl
          · exact Nat.lt_irrefl _ (Nat.lt_of_le_of_lt (Nat.le_add_right _ _) lc)
          · exact Nat.lt_irrefl _ (Nat.lt_of_le_of_lt (Nat.le_add_right _ _) lc)
          · exact Nat.lt_irrefl _ lc
          · exact Nat.lt_irrefl _ (Nat.lt_of_le_of_lt (Nat.le_add_right _ _) lc)
end
end L2

/-! tuple * 0, tuple * 1. -/
namespace L2
open PySem PySem.Spec PyProof.Rows
open AutoSeq1 (wpAny_loadPart')
theorem tuple_mul1 (l : Addr) (items : Array Value) (n : Nat) (dd : Option Addr) (sl : Array (Option Value)) (u : Tok) :
    Meets (Builtin.«tuple.__mul__» ⟨[.ref l, .int 1 u], []⟩) (fun _ R s => s.heap.get? l = some { cls := .type "tuple", dict := dd, data := .seq items n, slots := sl } ∧
      R (.ok (.ret (Value.ref l))) s) :=
  .of_wp fun prog w A R s h => by
    obtain ⟨hp, g, d, tk, os⟩ := s
    obtain ⟨hl, h⟩ := h
    have f1 := AutoSeq1.idx_int
    have c0 : (decide ((1 : Int) < -(2 ^ 63)) || decide ((1 : Int) ≥ 2 ^ 63)) = false := by decide
    have c1 : (items.isEmpty || (1 : Int) == 1) = true := by simp
    wp_walk using wpAny_loadPart' hl
    repeat (first
      | (refine wpAny_ite_false (decide_eq_false (by rw [c0]; exact Bool.false_ne_true)) ?_; wp_walk using wpAny_loadPart' hl)
      | (refine wpAny_ite_true (decide_eq_true (by rw [c1])) ?_; wp_walk using wpAny_loadPart' hl))
    exact ⟨_, rfl, h⟩
theorem tuple_mul0 (l : Addr) (items : Array Value) (n : Nat) (dd : Option Addr) (sl : Array (Option Value)) (u : Tok) (hne : items.isEmpty = false) :
    Meets (Builtin.«tuple.__mul__» ⟨[.ref l, .int 0 u], []⟩) (fun _ R s => s.heap.get? l = some { cls := .type "tuple", dict := dd, data := .seq items n, slots := sl } ∧
      R (.ok (.ret (Value.ref s.heap.objs.size))) { s with heap := s.heap.push { cls := Value.type "tuple", data := Data.seq #[] } }) :=
  .of_wp fun prog w A R s h => by
    obtain ⟨hp, g, d, tk, os⟩ := s
    obtain ⟨hl, h⟩ := h
    have f1 := AutoSeq1.idx_int
    have c0 : (decide ((0 : Int) < -(2 ^ 63)) || decide ((0 : Int) ≥ 2 ^ 63)) = false := by decide
    have c1 : (items.isEmpty || (0 : Int) == 1) = false := by rw [hne]; rfl
    have c2 : (decide ((0 : Int) ≤ 0) || items.isEmpty) = true := by simp
    wp_walk using wpAny_loadPart' hl
    repeat (first
      | (refine wpAny_ite_false (decide_eq_false (by rw [c0]; exact Bool.false_ne_true)) ?_; wp_walk using wpAny_loadPart' hl)
      | (refine wpAny_ite_false (decide_eq_false (by rw [c1]; exact Bool.false_ne_true)) ?_; wp_walk using wpAny_loadPart' hl)
      | (refine wpAny_ite_true (decide_eq_true (by rw [c2])) ?_; wp_walk using wpAny_loadPart' hl))
    exact ⟨_, rfl, h⟩
/-- t * k, k from 0 on -/
def rRepZ (K : PySem.W.Frag) : R2 := fun x y H Q => ∃ l k xs, x = .ref l ∧ y = .int k ∧ SqT K H l xs ∧ xs ≠ [] ∧ 0 ≤ k ∧ k ≤ 1000 ∧ xs.length ≤ 1000 ∧ (k = 1 → Q (.ref l) H) ∧ (k ≠ 1 → ∀ p, H p = none → Q (.ref p) (upd H p (.tup (List.replicate k.toNat xs).flatten)))
theorem op_repZ {X : Cx} : OpR X (binaryOp .Mult) (rRepZ X.K) := by
  intro pins s σ H x y v u Q I rx ry h
  obtain ⟨l, k, xs, rfl, rfl, hT, hne, h1, h2, hz, q1, q2⟩ := h
  by_cases k1 : k = 1
  · subst k1
    cases rx
    obtain ⟨t, rfl⟩ := ry
    obtain ⟨its, r, ⟨⟨cls, dd, data, sl⟩, ho, hc, n, hd⟩, hs⟩ := I.tuple hT
    simp only at hc hd
    subst hc hd
    refine wpAny_binaryOp_repeat_ref (T := "tuple") (U := "int") (by decide) ⟨_, ho, rfl⟩ (fun s' => typeIs_int s' 1 t) noFill_tuple_mul F.fills_int_mul F.slot_int_rmul repeat_tuple F.slot_int_index.lookup
      (call_meets F.slot_int_rmul (typeIs_int s 1 t) F.entry_int_rmul (F.args_int_rmul_2 _ _) (int_rmul_tuple 1 t l its.toArray n dd sl)
        ⟨ho, rfl, ⟨_, ho, rfl⟩, call_meets F.slot_tuple_mul ⟨_, ho, rfl⟩ F.entry_tuple_mul (F.args_tuple_mul_2 _ _) (tuple_mul1 l its.toArray n dd sl t) ⟨ho, ?_⟩⟩)
    exact ⟨.ref l, H, I, rfl, q1 rfl⟩
  · by_cases k0 : k = 0
    · subst k0
      cases rx
      obtain ⟨t, rfl⟩ := ry
      obtain ⟨its, r, ⟨⟨cls, dd, data, sl⟩, ho, hc, n, hd⟩, hs⟩ := I.tuple hT
      simp only at hc hd
      subst hc hd
      have hi : its.toArray.isEmpty = false := by
        cases its with
        | nil =>
          cases r
          exact absurd rfl hne
        | cons a b => rfl
      refine wpAny_binaryOp_repeat_ref (T := "tuple") (U := "int") (by decide) ⟨_, ho, rfl⟩ (fun s' => typeIs_int s' 0 t) noFill_tuple_mul F.fills_int_mul F.slot_int_rmul repeat_tuple F.slot_int_index.lookup
        (call_meets F.slot_int_rmul (typeIs_int s 0 t) F.entry_int_rmul (F.args_int_rmul_2 _ _) (int_rmul_tuple 0 t l its.toArray n dd sl)
          ⟨ho, rfl, ⟨_, ho, rfl⟩, call_meets F.slot_tuple_mul ⟨_, ho, rfl⟩ F.entry_tuple_mul (F.args_tuple_mul_2 _ _) (tuple_mul0 l its.toArray n dd sl t hi) ⟨ho, ?_⟩⟩)
      refine ⟨.ref s.heap.objs.size, _, I.laid (t' := s.toks) (o := .tup []) (fun b ob q => Heap.get?_push_of_some _ q) (Nat.le_refl _) ?_, rfl, q2 k1 _ (I.hok.fresh (Nat.le_refl _))⟩
      exact ⟨Nat.zero_le _, [], .nil, IsTup.new _ _⟩
    · exact op_repT pins s σ H _ _ v u Q I rx ry ⟨l, k, xs, rfl, rfl, hT, hne, by omega, h2, hz, q2 k1⟩
theorem tuple_mulE (l : Addr) (n : Nat) (dd : Option Addr) (sl : Array (Option Value)) (x : Int) (u : Tok) (h0 : 0 ≤ x) (h1 : x ≤ 1000) :
    Meets (Builtin.«tuple.__mul__» ⟨[.ref l, .int x u], []⟩) (fun _ R s => s.heap.get? l = some { cls := .type "tuple", dict := dd, data := .seq #[] n, slots := sl } ∧
      R (.ok (.ret (Value.ref l))) s) :=
  .of_wp fun prog w A R s h => by
    obtain ⟨hp, g, d, tk, os⟩ := s
    obtain ⟨hl, h⟩ := h
    have f1 := AutoSeq1.idx_int
    have c0 : (decide (x < -(2 ^ 63)) || decide (x ≥ 2 ^ 63)) = false := by
      rw [decide_eq_false (by omega), decide_eq_false (by omega)]
      rfl
    have c1 : ((#[] : Array Value).isEmpty || x == 1) = true := by simp
    wp_walk using wpAny_loadPart' hl
    repeat (first
      | (refine wpAny_ite_false (decide_eq_false (by rw [c0]; exact Bool.false_ne_true)) ?_; wp_walk using wpAny_loadPart' hl)
      | (refine wpAny_ite_true (decide_eq_true (by rw [c1])) ?_; wp_walk using wpAny_loadPart' hl))
    exact ⟨_, rfl, h⟩
/-- t * k, k from 0 on, t of any length -/
def rRepE (K : PySem.W.Frag) : R2 := fun x y H Q => ∃ l k xs, x = .ref l ∧ y = .int k ∧ SqT K H l xs ∧ 0 ≤ k ∧ k ≤ 1000 ∧ xs.length ≤ 1000 ∧ (xs = [] → Q (.ref l) H) ∧ (xs ≠ [] → k = 1 → Q (.ref l) H) ∧ (xs ≠ [] → k ≠ 1 → ∀ p, H p = none → Q (.ref p) (upd H p (.tup (List.replicate k.toNat xs).flatten)))
theorem op_repE {X : Cx} : OpR X (binaryOp .Mult) (rRepE X.K) := by
  intro pins s σ H x y v u Q I rx ry h
  obtain ⟨l, k, xs, rfl, rfl, hT, h1, h2, hz, q0, q1, q2⟩ := h
  by_cases hx : xs = []
  · subst hx
    cases rx
    obtain ⟨t, rfl⟩ := ry
    obtain ⟨its, r, ⟨⟨cls, dd, data, sl⟩, ho, hc, n, hd⟩, hs⟩ := I.tuple hT
    simp only at hc hd
    subst hc hd
    cases r
    refine wpAny_binaryOp_repeat_ref (T := "tuple") (U := "int") (by decide) ⟨_, ho, rfl⟩ (fun s' => typeIs_int s' k t) noFill_tuple_mul F.fills_int_mul F.slot_int_rmul repeat_tuple F.slot_int_index.lookup
      (call_meets F.slot_int_rmul (typeIs_int s k t) F.entry_int_rmul (F.args_int_rmul_2 _ _) (int_rmul_tuple k t l _ n dd sl)
        ⟨ho, rfl, ⟨_, ho, rfl⟩, call_meets F.slot_tuple_mul ⟨_, ho, rfl⟩ F.entry_tuple_mul (F.args_tuple_mul_2 _ _) (tuple_mulE l n dd sl k t h1 h2) ⟨ho, ?_⟩⟩)
    exact ⟨.ref l, H, I, rfl, q0 rfl⟩
  · exact op_repZ pins s σ H _ _ v u Q I rx ry ⟨l, k, xs, rfl, rfl, hT, hx, h1, h2, hz, q1 hx, q2 hx⟩
end L2

/-! Dicts as lists of pairs; a comprehension over a dict's keys. -/
namespace L2.Hx
open PySem PySem.Spec PyProof.Rows
section
variable {κ α : Type} [DecidableEq κ]
def kvK (ι : κ → Key) (f : α → V) (l : List (κ × α)) : List (Key × V) := l.map fun q => (ι q.1, f q.2)
def keysA (l : List (κ × α)) : List κ := l.map Prod.fst
def putA (l : List (κ × α)) (k : κ) (v : α) : List (κ × α) := if k ∈ keysA l then l.map (fun q => if q.1 = k then (q.1, v) else q) else l ++ [(k, v)]
def getA (l : List (κ × α)) (k : κ) : Option α := (l.find? fun q => decide (q.1 = k)).map Prod.snd
theorem getA_nil (k : κ) : getA ([] : List (κ × α)) k = none := rfl
theorem getA_pos {q : κ × α} {l : List (κ × α)} {k : κ} (h : q.1 = k) : getA (q :: l) k = some q.2 := by simp [getA, List.find?_cons, h]
theorem getA_neg {q : κ × α} {l : List (κ × α)} {k : κ} (h : ¬ q.1 = k) : getA (q :: l) k = getA l k := by simp [getA, List.find?_cons, h]
theorem getA_out : ∀ {l : List (κ × α)} {k : κ}, ¬ k ∈ keysA l → getA l k = none
  | [], _, _ => rfl
  | q :: l, k, h => by
    rw [getA_neg (fun e => h (by rw [← e]; exact List.mem_cons_self))]
    exact getA_out fun m => h (List.mem_cons_of_mem _ m)
theorem getA_in : ∀ {l : List (κ × α)} {k : κ}, k ∈ keysA l → ∃ v, getA l k = some v ∧ (k, v) ∈ l
  | [], _, h => absurd h List.not_mem_nil
  | q :: l, k, h => by
    by_cases e : q.1 = k
    · exact ⟨q.2, getA_pos e, by rw [← e]; exact List.mem_cons_self⟩
    · rcases List.mem_cons.mp h with h | h
      · exact absurd h.symm e
      · obtain ⟨v, a, b⟩ := getA_in h
        exact ⟨v, by rw [getA_neg e]; exact a, List.mem_cons_of_mem _ b⟩
theorem getA_mem {l : List (κ × α)} {k : κ} {v : α} (h : getA l k = some v) : (k, v) ∈ l := by
  by_cases m : k ∈ keysA l
  · obtain ⟨u, a, b⟩ := getA_in m
    rw [h] at a
    cases a
    exact b
  · rw [getA_out m] at h
    cases h
theorem mem_getA : ∀ {l : List (κ × α)} {k : κ} {v : α}, (keysA l).Nodup → (k, v) ∈ l → getA l k = some v
  | [], _, _, _, m => absurd m List.not_mem_nil
  | q :: l, k, v, nd, m => by
    have n2 := List.nodup_cons.mp nd
    rcases List.mem_cons.mp m with e | m
    · rw [← e]
      exact getA_pos rfl
    · have : ¬ q.1 = k := fun e => n2.1 (by rw [e]; exact List.mem_map.mpr ⟨_, m, rfl⟩)
      rw [getA_neg this]
      exact mem_getA n2.2 m
theorem keys_putA (l : List (κ × α)) (k : κ) (v : α) : keysA (putA l k v) = if k ∈ keysA l then keysA l else keysA l ++ [k] := by
  unfold putA
  by_cases h : k ∈ keysA l
  · rw [if_pos h, if_pos h]
    unfold keysA
    rw [List.map_map]
    refine List.map_congr_left fun q _ => ?_
    show (if q.1 = k then (q.1, v) else q).1 = q.1
    split <;> rfl
  · rw [if_neg h, if_neg h]
    unfold keysA
    rw [List.map_append]
    rfl
theorem putA_nodup {l : List (κ × α)} {k : κ} {v : α} (h : (keysA l).Nodup) : (keysA (putA l k v)).Nodup := by
  rw [keys_putA]
  split
  · exact h
  · rename_i n
    exact List.nodup_append.mpr ⟨h, by simp, fun a ha b hb e => n (by rw [List.mem_singleton.mp hb] at e; rw [← e]; exact ha)⟩
theorem putA_keys {l : List (κ × α)} {k x : κ} {v : α} : x ∈ keysA (putA l k v) ↔ x ∈ keysA l ∨ x = k := by
  rw [keys_putA]
  split
  · rename_i h
    exact ⟨.inl, fun q => q.elim id fun e => by rw [e]; exact h⟩
  · rw [List.mem_append, List.mem_singleton]
theorem putA_len (l : List (κ × α)) (k : κ) (v : α) : (putA l k v).length ≤ l.length + 1 := by
  unfold putA
  split
  · rw [List.length_map]
    omega
  · rw [List.length_append]
    exact Nat.le_refl _
theorem get_map {k x : κ} {v : α} : ∀ l : List (κ × α), getA (l.map (fun q => if q.1 = k then (q.1, v) else q)) x = if x = k then (if k ∈ keysA l then some v else none) else getA l x
  | [] => by
    show none = if x = k then (if k ∈ keysA ([] : List (κ × α)) then some v else none) else none
    rw [if_neg (show ¬ k ∈ keysA ([] : List (κ × α)) from List.not_mem_nil)]
    split <;> rfl
  | q :: l => by
    have ih := get_map (k := k) (x := x) (v := v) l
    rw [List.map_cons]
    by_cases e : q.1 = k
    · rw [if_pos e, if_pos (show k ∈ keysA (q :: l) by rw [← e]; exact List.mem_cons_self)]
      by_cases ex : x = k
      · rw [if_pos ex, getA_pos (by rw [ex]; exact e)]
      · rw [if_neg ex] at ih ⊢
        rw [getA_neg (fun z => ex (by rw [← z]; exact e)), ih, getA_neg (fun z => ex (by rw [← z]; exact e))]
    · rw [if_neg e]
      by_cases ex : x = k
      · rw [if_pos ex] at ih ⊢
        rw [getA_neg (by rw [ex]; exact e), ih]
        have : k ∈ keysA (q :: l) ↔ k ∈ keysA l := ⟨fun m => (List.mem_cons.mp m).elim (fun z => absurd z.symm e) id, List.mem_cons_of_mem _⟩
        by_cases m : k ∈ keysA l
        · rw [if_pos m, if_pos (this.mpr m)]
        · rw [if_neg m, if_neg (fun z => m (this.mp z))]
      · rw [if_neg ex] at ih ⊢
        by_cases e2 : q.1 = x
        · rw [getA_pos e2, getA_pos e2]
        · rw [getA_neg e2, getA_neg e2, ih]
theorem get_app {k x : κ} {v : α} : ∀ l : List (κ × α), ¬ k ∈ keysA l → getA (l ++ [(k, v)]) x = if x = k then some v else getA l x
  | [], _ => by
    show getA [(k, v)] x = _
    by_cases e : x = k
    · rw [if_pos e, getA_pos e.symm]
    · rw [if_neg e, getA_neg (fun z => e z.symm)]
  | q :: l, h => by
    have ih := get_app (k := k) (x := x) (v := v) l fun m => h (List.mem_cons_of_mem _ m)
    rw [List.cons_append]
    by_cases e : q.1 = x
    · rw [getA_pos e, getA_pos e, if_neg (fun z => h (by rw [← z, ← e]; exact List.mem_cons_self))]
    · rw [getA_neg e, getA_neg e, ih]
theorem get_putA {l : List (κ × α)} {k x : κ} {v : α} : getA (putA l k v) x = if x = k then some v else getA l x := by
  unfold putA
  by_cases h : k ∈ keysA l
  · rw [if_pos h, get_map, if_pos h]
  · rw [if_neg h, get_app l h]
variable {ι : κ → Key} {f : α → V}
theorem kv_get (hi : ∀ a b, ι a = ι b → a = b) (k : κ) : ∀ l : List (κ × α), valV (kvK ι f l) (ι k) = (getA l k).map f
  | [] => rfl
  | q :: l => by
    by_cases e : q.1 = k
    · rw [getA_pos e]
      exact valV_pos (p := (ι q.1, f q.2)) (by rw [e])
    · rw [getA_neg e, ← kv_get hi k l]
      exact valV_neg (p := (ι q.1, f q.2)) (fun z => e (hi _ _ z))
theorem kv_any (hi : ∀ a b, ι a = ι b → a = b) (k : κ) : ∀ l : List (κ × α), ((kvK ι f l).any fun kv => decide (kv.1 = ι k)) = decide (k ∈ keysA l)
  | [] => rfl
  | q :: l => by
    have ih := kv_any hi k l
    show (decide (ι q.1 = ι k) || (kvK ι f l).any fun kv => decide (kv.1 = ι k)) = _
    rw [ih]
    by_cases e : q.1 = k
    · rw [decide_eq_true (show ι q.1 = ι k by rw [e]), decide_eq_true (show k ∈ keysA (q :: l) by rw [← e]; exact List.mem_cons_self), Bool.true_or]
    · rw [decide_eq_false (fun z => e (hi _ _ z)), Bool.false_or]
      by_cases m : k ∈ keysA l
      · rw [decide_eq_true m, decide_eq_true (show k ∈ keysA (q :: l) from List.mem_cons_of_mem _ m)]
      · rw [decide_eq_false m]
        exact (decide_eq_false (show ¬ k ∈ keysA (q :: l) from fun z => (List.mem_cons.mp z).elim (fun y => e y.symm) m)).symm
theorem kv_put (hi : ∀ a b, ι a = ι b → a = b) (l : List (κ × α)) (k : κ) (v : α) : putK (kvK ι f l) (ι k) (f v) = kvK ι f (putA l k v) := by
  unfold putK putA
  rw [kv_any hi]
  by_cases h : k ∈ keysA l
  · rw [if_pos (decide_eq_true h), if_pos h]
    unfold kvK
    rw [List.map_map, List.map_map]
    refine List.map_congr_left fun q _ => ?_
    show (if ι q.1 = ι k then (ι q.1, f v) else (ι q.1, f q.2)) = (ι (if q.1 = k then (q.1, v) else q).1, f (if q.1 = k then (q.1, v) else q).2)
    by_cases e : q.1 = k
    · rw [if_pos (by rw [e]), if_pos e]
    · rw [if_neg (fun z => e (hi _ _ z)), if_neg e]
  · rw [if_neg (by rw [decide_eq_false h]; exact Bool.false_ne_true), if_neg h]
    unfold kvK
    rw [List.map_append]
    rfl
theorem kv_len (l : List (κ × α)) : (kvK ι f l).length = l.length := List.length_map _
end
theorem inl_inj : ∀ a b : Int, (Sum.inl a : Key) = .inl b → a = b := fun _ _ h => Sum.inl.inj h
theorem inr_inj : ∀ a b : Str, (Sum.inr a : Key) = .inr b → a = b := fun _ _ h => Sum.inr.inj h
section
variable {α : Type} {f : α → V} {H : Hp} {d : Addr}
theorem dgetIR {l : List (Int × α)} (h : Rd H d (.dK (kvK Sum.inl f l))) (k : Int) : DGet H d (.int k) ((getA l k).map f) := .inl ⟨_, .inl k, h, rfl, (kv_get inl_inj k l).symm⟩
theorem dgetSR {l : List (Str × α)} (h : Rd H d (.dK (kvK Sum.inr f l))) (k : Str) : DGet H d (.str k) ((getA l k).map f) := .inl ⟨_, .inr k, h, rfl, (kv_get inr_inj k l).symm⟩
theorem dgetI {l : List (Int × α)} (h : H d = some (.dK (kvK Sum.inl f l))) (k : Int) : DGet H d (.int k) ((getA l k).map f) := dgetIR (.of h) k
theorem dgetS {l : List (Str × α)} (h : H d = some (.dK (kvK Sum.inr f l))) (k : Str) : DGet H d (.str k) ((getA l k).map f) := dgetSR (.of h) k
theorem dputI {l : List (Int × α)} (h : H d = some (.dK (kvK Sum.inl f l))) (k : Int) (v : α) (hz : l.length < sizeLine) : DPut H d (.int k) (f v) (upd H d (.dK (kvK Sum.inl f (putA l k v)))) := by
  rw [← kv_put inl_inj]
  exact DPut.k (k := Sum.inl k) h (by rw [kv_len]; exact hz)
theorem dputS {l : List (Str × α)} (h : H d = some (.dK (kvK Sum.inr f l))) (k : Str) (v : α) (hz : l.length < sizeLine) : DPut H d (.str k) (f v) (upd H d (.dK (kvK Sum.inr f (putA l k v)))) := by
  rw [← kv_put inr_inj]
  exact DPut.k (k := Sum.inr k) h (by rw [kv_len]; exact hz)
end
/-- what is kept: all tuples but what stands at d -/
def Kp (d : Addr) (H H' : Hp) : Prop := ∀ b ys, b ≠ d → H b = some (.tup ys) → H' b = some (.tup ys)
def But (d : Addr) (H H' : Hp) : Prop := ∀ b o, b ≠ d → H b = some o → H' b = some o
theorem But.refl (d : Addr) (H : Hp) : But d H H := fun _ _ _ h => h
theorem But.trans {d : Addr} {H1 H2 H3 : Hp} (a : But d H1 H2) (b : But d H2 H3) : But d H1 H3 := fun c o n h => b c o n (a c o n h)
theorem Same.but {d : Addr} {H H' : Hp} (s : Same H H') : But d H H' := fun b o _ h => s b o h
theorem But.add {d : Addr} {H H' : Hp} (s : But d H H') {a : Addr} {o : HO} (h : H' a = none) : But d H (upd H' a o) := fun b u n q => by
  have q2 := s b u n q
  rw [upd_ne (ne_of_none q2 h)]
  exact q2
/-- [e for k in d if t]: the dict d stands still meanwhile -/
theorem lc_keysE {σ : St} {H : Hp} {Q : VK} {j slot : Nat} {d : Addr} {kvs : List (Key × V)} {tt : TT} {te : TE} (hi : σ[slot]? = some (some (.ref d))) (hd : H d = some (.dK kvs)) (out : Nat → List V → Hp → Prop)
    (mono : ∀ i xs H1 H2, Kp d H1 H2 → out i xs H1 → out i xs H2) (h0 : out 0 [] H)
    (step : ∀ od i kk v H3 xs (Ny : V → Hp → Prop) (Nn : Hp → Prop), kvs[i]? = some (kk, v) → H3 d = some (.frz od (.dK kvs)) → But d H H3 → out i xs H3 → xs.length ≤ i →
      (∀ y H6, H6 d = some (.frz od (.dK kvs)) → But d H3 H6 → out (i + 1) (xs ++ [y]) H6 → Ny y H6) → (∀ H5, H5 d = some (.frz od (.dK kvs)) → But d H3 H5 → out (i + 1) xs H5 → Nn H5) →
      tt ((σ.set j none).set j (some (kV kk))) H3 fun b H5 => if b = true then te ((σ.set j none).set j (some (kV kk))) H5 Ny else Nn H5)
    (hz : kvs.length < sizeLine)
    (fin : ∀ L xs H', Same H H' → H L = none → H' L = some (.lst xs) → out kvs.length xs H' → xs.length ≤ kvs.length → Q (.ref L) H') : ∃ (d' : Addr) (u : HO), H d' = some u ∧ Mut (some u) ∧ ∀ od, tLc (iKeys (tVar slot)) (gName j) tt te [j] σ (upd H d' (.frz od u)) fun v H' => H' d' = some (.frz od u) ∧ Q v (upd H' d' u) := by
  refine ⟨d, .dK kvs, hd, trivial, fun od => ?_⟩
  refine ⟨_, hi, d, od, rfl, .inl ⟨kvs, upd_same, fun L hL => ?_⟩⟩
  have nDL : d ≠ L := fun e => by
    rw [← e, upd_same] at hL
    cases hL
  have freeL : H L = none := by
    rw [upd_ne nDL.symm] at hL
    exact hL
  have b0 : But d H (upd H d (.frz od (.dK kvs))) := fun b o n q => by rw [upd_ne n]; exact q
  refine lc_it (walk_keys (d := d) (o := od) (kvs := kvs)) (fun i H3 => But d H H3 ∧ H3 d = some (.frz od (.dK kvs)) ∧ ∃ xs, H3 L = some (.lst xs) ∧ out i xs H3 ∧ xs.length ≤ i)
    ⟨b0.add hL, by rw [upd_ne nDL]; exact upd_same, [], upd_same, mono _ _ _ _ (fun b ys n q => ?_) h0, Nat.le_refl _⟩ (fun i H3 _ q => q.2.1) ?_ ?_
  · have q2 := b0 b _ n q
    rw [upd_ne (ne_of_none q2 hL)]
    exact q2
  · rintro i x H3 H4 hi ⟨b3, h3, xs, l3, o3, z3⟩ ⟨rfl, kk, vv, hk, rfl⟩
    refine ⟨set_none σ, ?_⟩
    have hlt := (List.getElem?_eq_some_iff.mp hk).1
    refine step od i kk vv H4 xs _ _ hk h3 b3 o3 z3 (fun y H6 h6 b6 o6 => ?_) (fun H5 h5 b5 o5 => ?_)
    · have l6 := b6 L _ nDL.symm l3
      refine ⟨xs, l6, by omega, fun b o n q => ?_, by rw [upd_ne nDL]; exact h6, xs ++ [y], upd_same, mono _ _ _ _ (fun b ys n q => ?_) o6, by rw [List.length_append, List.length_singleton]; omega⟩
      · rw [upd_ne (ne_of_none q freeL)]
        exact b6 b o n (b3 b o n q)
      · rw [upd_ne (ne_of q l6 (by intro z; cases z))]
        exact q
    · exact ⟨b3.trans b5, h5, xs, b5 L _ nDL.symm l3, o5, Nat.le_succ_of_le z3⟩
  · rintro H3 ⟨b3, h3, xs, l3, o3, z3⟩
    refine ⟨h3, fin L xs _ (fun b o q => ?_) freeL (by rw [upd_ne nDL.symm]; exact l3) (mono _ _ _ _ (fun b ys n q => by rw [upd_ne n]; exact q) o3) z3⟩
    by_cases e : b = d
    · rw [e] at q ⊢
      rw [upd_same, ← hd]
      exact q
    · rw [upd_ne e]
      exact b3 b o e q
/-- [e for k in d if t]: the dict d stands still meanwhile -/
theorem lc_keys {σ : St} {H : Hp} {Q : VK} {j slot : Nat} {d : Addr} {kvs : List (Key × V)} {tt : TT} {te : TE} (hi : σ[slot]? = some (some (.ref d))) (hd : H d = some (.dK kvs)) (out : Nat → List V → Hp → Prop)
    (mono : ∀ i xs H1 H2, Kp d H1 H2 → out i xs H1 → out i xs H2) (h0 : out 0 [] H)
    (step : ∀ od i kk v H3 xs (Ny : V → Hp → Prop) (Nn : Hp → Prop), kvs[i]? = some (kk, v) → H3 d = some (.frz od (.dK kvs)) → But d H H3 → out i xs H3 → xs.length ≤ i →
      (∀ y H6, H6 d = some (.frz od (.dK kvs)) → But d H3 H6 → out (i + 1) (xs ++ [y]) H6 → Ny y H6) → (∀ H5, H5 d = some (.frz od (.dK kvs)) → But d H3 H5 → out (i + 1) xs H5 → Nn H5) →
      tt ((σ.set j none).set j (some (kV kk))) H3 fun b H5 => if b = true then te ((σ.set j none).set j (some (kV kk))) H5 Ny else Nn H5)
    (hz : kvs.length < sizeLine)
    (fin : ∀ L xs H', Same H H' → H L = none → H' L = some (.lst xs) → out kvs.length xs H' → xs.length ≤ kvs.length → Q (.ref L) H') : tLockE (tLc (iKeys (tVar slot)) (gName j) tt te [j]) σ H Q := lc_keysE hi hd out mono h0 step hz fin
end L2.Hx

/-! list(d.values()); d == {}; a walk over a dict's pairs. -/
namespace L2
open PySem PySem.Spec PyProof.Rows
def tListVals (te : TE) : TE := fun σ H Q => te σ H fun x H1 => ∃ (d : Addr) (kvs : List (Key × V)), x = .ref d ∧ H1 d = some (.dK kvs) ∧ ∀ p, H1 p = none → Q (.ref p) (upd H1 p (.lst (kvs.map Prod.snd)))
section
variable {X : Cx} {e : Expr} {te : TE} {p apos cpos pos : Pos}
theorem kv_vals : ∀ {kvs : List (Key × V)} {vs : List (Key × Value)}, KV kvs vs → Vals (kvs.map Prod.snd) (vs.map Prod.snd)
  | [], _, .nil => .nil
  | _ :: _, _, .cons r t => .cons r.2 (kv_vals t)
/-- list(e.values()) -/
theorem pe_listVals (hc : X.calm = true) (he : PE X e te) (hg : Gl X "list") (hm : X.mg "list" = none) (hv : bootBuiltins "list" = some (.type "list")) (hbase : attributeBase e "values" X.env (eval e X.env) = eval e X.env := by rfl) (hline : (apos.endLine == cpos.line) = true := by rfl)
    (hs : starEach [.Call (.Attribute e "values" apos) [] [] cpos] X.env = (false, eval (.Call (.Attribute e "values" apos) [] [] cpos) X.env) :: starEach [] X.env := by rfl) :
    PE X (.Call (.Name "list" p) [.Call (.Attribute e "values" apos) [] [] cpos] [] pos) (tListVals te) := by
  refine ⟨fun pins s σ H Q I hq => ?_⟩
  refine wpAny_Call_Name_kw (ld_blt I hg hm hv ?_)
  refine PyProof.Rows.callWith_type1 ?_ hs rfl
  rw [hs]
  show wpAny _ _ (spliced ((false, eval (.Call (.Attribute e "values" apos) [] [] cpos) X.env) :: backTo pos (starEach [] X.env))) _ _ s
  refine Calls.spliced_cons ?_
  refine wpAny_Call_method (T := "dict") (id := "dict.values") hbase rfl hline F.plainAttrs_dict F.slot_dict_values F.type_dict_values (thn (he.run pins s σ H _ I hq) fun u s1 ⟨x, H1, I1, rx, d, kvs, ex, hd, q⟩ => ?_)
  subst ex
  obtain rfl : u = Value.ref d := rx
  obtain ⟨hz, hs0, vs, kv, hdo⟩ := I1.hok d _ hd
  obtain ⟨ep, hat⟩ := hdo.dictAt
  have lk : kvs.length = vs.length := Paired.length kv
  have I2 : Inv X pins σ H1 { s1 with heap := s1.heap.push { cls := .type "dict_values", data := .fields #[.ref d] } } := I1.kept (t' := s1.toks) fun b ob q => Heap.get?_push_of_some _ q
  refine ⟨hdo.typeIs, hdo.mapOf.noDict, ?_⟩
  show wpAny _ _ (callWith cpos (.builtin "dict.values") [.ref d] [] []) _ X.xe s1
  refine method_meetsIn F.slot_dict_values F.entry_dict_values rfl (PySem.evalArgs_none ⟨rfl, hdo.typeIs, F.args_dict_values_1 _, _, meets_dict_values (mixKind X.prog X.w) d hs0, ⟨vs, hdo⟩, ?_⟩)
  refine Calls.spliced_nil ?_
  have hlt : d < s1.heap.objs.size := by
    obtain ⟨o, _, ho, _⟩ := hat
    exact Heap.lt_size ho
  refine PySem.W.kdl_call (PySem.W.kdl_values (knd := mixKind X.prog X.w) (r := s1.heap.objs.size) (d := d) (kvs := vs) (ep := ep)) (I1.ok.hd hc) ⟨⟨_, Heap.get?_push_size _ rfl, rfl, rfl⟩, hat.push _⟩ (by omega) fun h' tk acc c' hk hD hacc => ?_
  have ev : acc.toList = vs.map Prod.snd := PySem.W.kdl_vals_eq acc.toList (by rw [Array.length_toList]; exact hacc.1) fun j v e => hacc.2 j v (by rw [← Array.getElem?_toList]; exact e)
  refine ⟨.ref _, upd H1 _ (.lst (kvs.map Prod.snd)), I2.laid (t' := tk) hk (Nat.le_refl _)
    (show ObjOk X.prog X.w _ _ _ (.lst (kvs.map Prod.snd)) from ⟨by rw [List.length_map]; exact hz, acc.toList, c', by rw [ev]; exact kv_vals kv, by rw [Array.toArray_toList]; exact hD⟩), rfl, q _ (I2.hok.fresh (Nat.le_refl _))⟩
end
namespace Hx
/-- d == {} -/
def rEqDct : R2 := fun x y H Q => ∃ a b ks, x = .ref a ∧ y = .ref b ∧ H a = some (.dK ks) ∧ H b = some (.dK []) ∧ Q (.bl ks.isEmpty) H
theorem op_eqDct {X : Cx} (hu : X.A.units < cLine) : OpR X (compareOp .Eq) rEqDct := by
  intro pins s σ H x y v u Q I rx ry h
  obtain ⟨a, b, ks, rfl, rfl, ea, eb, q⟩ := h
  obtain rfl : v = Value.ref a := rx
  obtain rfl : u = Value.ref b := ry
  obtain ⟨_, ya, va, ra, da⟩ := (show ObjOk X.prog X.w H s.heap a (.dK ks) from I.hok a _ ea)
  obtain ⟨_, yb, vb, rb, db⟩ := (show ObjOk X.prog X.w H s.heap b (.dK []) from I.hok b _ eb)
  have l1 := ra.length
  have l2 := rb.length
  refine PySem.W.keq_eq (knd := mixKind X.prog X.w) (r := true) ya yb da db hu (fun e => ?_) (fin_bl I q ?_)
  · have e0 : ks = [] := List.length_eq_zero_iff.mp (by rw [l1, e, ← l2]; rfl)
    subst e0
    exact hits_all rb ra fun p m => absurd m List.not_mem_nil
  · rw [← l1, ← l2]
    cases ks <;> rfl
/-- {k: e for x in ..} over a walk -/
theorem dc_it {J : It} {n : Nat} {G : Hp → Prop} {Y : Nat → Hp → V → Hp → Prop} (w : Walk J n G Y) {g : TG} {tt : TT} {tk tv : TE} {vs : List Nat} {σ : St} {H1 : Hp} {D : Addr} {Qd : Hp → Prop} (Pv : Nat → Hp → Prop) (h0 : Pv 0 (upd H1 D (.dK []))) (hG : ∀ i H, i ≤ n → Pv i H → G H)
    (hs : ∀ i x H H', i < n → Pv i H → Y i H x H' → g x (wipe σ vs) H' fun σ2 H2 => wipe σ2 vs = wipe σ vs ∧ tt σ2 H2 fun b H3 =>
      if b = true then tk σ2 H3 fun y H4 => tv σ2 H4 fun z H5 => ∃ kvs k, y = kV k ∧ H5 D = some (.dK kvs) ∧ kvs.length < sizeLine ∧ Pv (i + 1) (upd H5 D (.dK (putK kvs k z))) else Pv (i + 1) H3) (hd : ∀ H, Pv n H → Qd H) :
    ∃ W : Nat → Nat → Hp → Prop, (∃ m, W 0 m (upd H1 D (.dK []))) ∧ ∀ i m H, W i m H →
      (J.stop i H ∧ Qd H) ∨ (J.go i H ∧ ∃ Nx : Hp → Prop, (∀ H', Nx H' → ∃ m', m' < m ∧ W (i + 1) m' H') ∧ ∀ x H', J.yld i H x H' → g x (wipe σ vs) H' fun σ2 H2 => wipe σ2 vs = wipe σ vs ∧ tt σ2 H2 fun b H3 =>
        if b = true then tk σ2 H3 fun y H4 => tv σ2 H4 fun z H5 => ∃ kvs k, y = kV k ∧ H5 D = some (.dK kvs) ∧ kvs.length < sizeLine ∧ Nx (upd H5 D (.dK (putK kvs k z))) else Nx H3) := by
  refine ⟨fun i m H => m = n - i ∧ i ≤ n ∧ Pv i H, ⟨n, by simp, Nat.zero_le _, h0⟩, ?_⟩
  rintro i m H ⟨rfl, hi, p⟩
  have q := hG i H hi p
  by_cases hlt : i < n
  · refine .inr ⟨w.goes i H hlt q, Pv (i + 1), fun H' p' => ⟨n - (i + 1), by omega, rfl, hlt, p'⟩, fun x H' y => hs i x H H' hlt p (w.yields i H x H' hlt q y)⟩
  · have e : i = n := by omega
    subst e
    exact .inl ⟨w.stops H q, hd H p⟩
/-- [e for (k, v) in d.items() if t]: the dict d stands still meanwhile -/
theorem lc_itemsE {σ : St} {H : Hp} {Q : VK} {vs : List Nat} {g : TG} {slot : Nat} {d : Addr} {kvs : List (Key × V)} {tt : TT} {te : TE} (hi : σ[slot]? = some (some (.ref d))) (hd : H d = some (.dK kvs)) (out : Nat → List V → Hp → Prop)
    (mono : ∀ i xs H1 H2, Kp d H1 H2 → out i xs H1 → out i xs H2) (h0 : out 0 [] H)
    (step : ∀ od i kk v T H3 xs (Ny : V → Hp → Prop) (Nn : Hp → Prop), kvs[i]? = some (kk, v) → H3 d = some (.frz od (.dK kvs)) → But d H H3 → H3 T = some (.tup [kV kk, v]) → out i xs H3 → xs.length ≤ i →
      (∀ y H6, H6 d = some (.frz od (.dK kvs)) → But d H3 H6 → out (i + 1) (xs ++ [y]) H6 → Ny y H6) → (∀ H5, H5 d = some (.frz od (.dK kvs)) → But d H3 H5 → out (i + 1) xs H5 → Nn H5) →
      g (.ref T) (wipe σ vs) H3 fun σ2 H2 => wipe σ2 vs = wipe σ vs ∧ tt σ2 H2 fun b H5 => if b = true then te σ2 H5 Ny else Nn H5)
    (hz : kvs.length < sizeLine)
    (fin : ∀ L xs H', Same H H' → H L = none → H' L = some (.lst xs) → out kvs.length xs H' → xs.length ≤ kvs.length → Q (.ref L) H') : ∃ (d' : Addr) (u : HO), H d' = some u ∧ Mut (some u) ∧ ∀ od, tLc (iItems (tVar slot)) g tt te vs σ (upd H d' (.frz od u)) fun v H' => H' d' = some (.frz od u) ∧ Q v (upd H' d' u) := by
  refine ⟨d, .dK kvs, hd, trivial, fun od => ?_⟩
  refine ⟨_, hi, d, od, kvs, rfl, upd_same, fun L hL => ?_⟩
  have nDL : d ≠ L := fun e => by
    rw [← e, upd_same] at hL
    cases hL
  have freeL : H L = none := by
    rw [upd_ne nDL.symm] at hL
    exact hL
  have b0 : But d H (upd H d (.frz od (.dK kvs))) := fun b o n q => by rw [upd_ne n]; exact q
  refine lc_it (walk_items (d := d) (o := od) (kvs := kvs)) (fun i H3 => But d H H3 ∧ H3 d = some (.frz od (.dK kvs)) ∧ ∃ xs, H3 L = some (.lst xs) ∧ out i xs H3 ∧ xs.length ≤ i)
    ⟨b0.add hL, by rw [upd_ne nDL]; exact upd_same, [], upd_same, mono _ _ _ _ (fun b ys n q => ?_) h0, Nat.le_refl _⟩ (fun i H3 _ q => q.2.1) ?_ ?_
  · have q2 := b0 b _ n q
    rw [upd_ne (ne_of_none q2 hL)]
    exact q2
  · rintro i x H3 H4 hi ⟨b3, h3, xs, l3, o3, z3⟩ ⟨T, a, v, rfl, hT, rfl, e1, e2⟩
    obtain ⟨⟨kk, vv⟩, hk, rfl⟩ := Option.map_eq_some_iff.mp e1
    dsimp only at e1 e2
    rw [hk] at e2
    obtain rfl : vv = v := Option.some.inj e2
    have nT : d ≠ T := ne_of_none h3 hT
    have b4 : But d H3 (upd H3 T (.tup [kV kk, vv])) := (But.refl d H3).add hT
    refine step od i kk vv T _ xs _ _ hk (by rw [upd_ne nT]; exact h3) (b3.trans b4) upd_same (mono _ _ _ _ (fun b ys n q => b4 b _ n q) o3) z3 (fun y H6 h6 b6 o6 => ?_) (fun H5 h5 b5 o5 => ?_)
    · have l6 := b6 L _ nDL.symm (b4 L _ nDL.symm l3)
      refine ⟨xs, l6, by omega, fun b o n q => ?_, by rw [upd_ne nDL]; exact h6, xs ++ [y], upd_same, mono _ _ _ _ (fun b ys n q => ?_) o6, by rw [List.length_append, List.length_singleton]; omega⟩
      · rw [upd_ne (ne_of_none q freeL)]
        exact b6 b o n (b4 b o n (b3 b o n q))
      · rw [upd_ne (ne_of q l6 (by intro z; cases z))]
        exact q
    · exact ⟨b3.trans (b4.trans b5), h5, xs, b5 L _ nDL.symm (b4 L _ nDL.symm l3), o5, Nat.le_succ_of_le z3⟩
  · rintro H3 ⟨b3, h3, xs, l3, o3, z3⟩
    refine ⟨h3, fin L xs _ (fun b o q => ?_) freeL (by rw [upd_ne nDL.symm]; exact l3) (mono _ _ _ _ (fun b ys n q => by rw [upd_ne n]; exact q) o3) z3⟩
    by_cases e : b = d
    · rw [e] at q ⊢
      rw [upd_same, ← hd]
      exact q
    · rw [upd_ne e]
      exact b3 b o e q
end Hx
end L2

/-! {**d, k: v, ..}: a dict display that begins with all pairs of a dict. -/
namespace PySem
open Sem (wp)
section
variable {prog : Program} {w : World} {K : Type} [DecidableEq K] {knd : KeyKind prog w K} {A : Around} {E : Value → Shared → Prop} {s : Shared}
theorem wpAny_dictPut_pairs {d : Addr} {kvs : List (K × Value)} {k : K} {key v : Value} {Q : Unit → Shared → Prop} (hkey : knd.is k key = true) (hm : s.heap.DictOf knd d kvs)
    (hQ : ∀ h', h'.DictOf knd d (stored kvs k v) → Heap.SameBut d s.heap h' → Q () { s with heap := h' })
    (hsz : kvs.length ≤ sizeLine := by size_fits) :
    wpAny (model prog w) A (dictPut d (knd.hash k) key v) Q E s := by
  obtain ⟨o, es, ep, ho, hc, hd, hk, hp, hn⟩ := hm
  have hes : es.size ≤ sizeLine := by have e1 := hp.length; have e2 : es.toList.length = es.size := by simp
                                      omega
  unfold dictPut
  refine wpAny_bind (wpAny_dictFind_of hkey ho hd hk ?_)
  have hidx : (es.findIdx? fun e => knd.is k e.key) = kvs.findIdx? fun kv => decide (kv.1 = k) := by
    rw [← hp.findIdx k]; obtain ⟨l⟩ := es; simp
  cases hi : es.findIdx? fun e => knd.is k e.key with
  | some i =>
    refine wpAny_updateDict ho hd (hQ _ ⟨_, _, ep, Heap.get?_update_self _ ho (Obj.isFreed_of_dict (Obj.data_mapDict hd _)),
      hc.mapDict _, Obj.data_mapDict hd _, hk.modify _ _, ?_, ?_⟩ (Heap.SameBut.update ..))
    · rw [stored, if_pos (any_of_findIdx_some (hidx ▸ hi))]
      have hl : (es.toList.findIdx? fun e => knd.is k e.key) = some i := by rw [← hi]; obtain ⟨l⟩ := es; simp
      have := hp.modify hn hl v
      obtain ⟨l⟩ := es
      simpa using this
    · rw [stored, if_pos (any_of_findIdx_some (hidx ▸ hi)), keys_map_store]; exact hn
  | none =>
    have hnot : k ∉ kvs.map (·.1) := not_mem_of_findIdx_none (hidx ▸ hi)
    have hany : ¬ (kvs.any fun kv => decide (kv.1 = k)) = true := by
      rw [List.any_eq_true]; rintro ⟨kv, hkv, he⟩
      exact hnot (List.mem_map.mpr ⟨kv, hkv, of_decide_eq_true he⟩)
    refine wpAny_updateDictKeys (hz := hes) ho hd (hQ _ ⟨_, _, ep + 1, Heap.get?_update_self _ ho (Obj.isFreed_of_dict (Obj.data_mapDictKeys hd _)),
      hc.mapDictKeys _, Obj.data_mapDictKeys hd _, hk.push hkey _, ?_, ?_⟩ (Heap.SameBut.update ..))
    · rw [stored, if_neg hany]
      have := hp.append hkey (knd.hash k) v
      obtain ⟨l⟩ := es
      simpa using this
    · rw [stored, if_neg hany, List.map_append, List.nodup_append]
      refine ⟨hn, by simp, ?_⟩
      intro a ha b hb
      simp only [List.map_cons, List.map_nil, List.mem_singleton] at hb
      subst hb
      exact fun e => hnot (e ▸ ha)
theorem wpAny_mergeMapping {d o : Addr} {kvs more : List (K × Value)} {Q : Unit → Shared → Prop} (hdo : d ≠ o) (hoS : (o == sysModules) = false)
    (hd : s.heap.DictOf knd d kvs) (ho : s.heap.DictOf knd o more)
    (hQ : ∀ h', h'.DictOf knd d (merged kvs more) → h'.DictOf knd o more → Heap.SameBut d s.heap h' → Q () { s with heap := h' })
    (hsz : kvs.length + more.length ≤ sizeLine := by size_fits) :
    wpAny (model prog w) A (mergeMapping d (.ref o) false) Q E s := by
  obtain ⟨od, esd, epd, hod, hcd, hdd, hkd, hpd, hnd⟩ := id hd
  obtain ⟨oo, eso, epo, hoo, hco, hdo', hko, hpo, hno⟩ := id ho
  unfold mergeMapping
  refine wpAny_bind (wpAny_isInstance ho.typeIs isSubtype_dict_dict ?_)
  simp only [if_true]
  refine wpAny_bind (wpAny_specialOf ho.typeIs F.slot_dict_iter.lookup ?_)
  simp only [beq_self_eq_true, pure_bind]
  rw [if_neg (by rw [hoS]; exact Bool.false_ne_true)]
  have hlen : more.length = eso.size := by rw [← hpo.length]; simp
  simp only [Bool.false_eq_true, if_false]
  have loop : wpAny (model prog w) A (do
      let l ← dictEntries o
      let epoch ← dictEpoch o
      forIn (List.range l.size) PUnit.unit fun i (_ : PUnit) => (do
          let l' ← dictEntries o
          match l'[i]? with
            | some e => do
              holding [e.key, e.val] (dictPut d e.hash e.key e.val)
              let ep' ← dictEpoch o
              if (ep' != epoch) = true then do
                  (unsupported "dict.changed-during-merge" : Sem PUnit)
                  pure (ForInStep.yield PUnit.unit)
                else pure (ForInStep.yield PUnit.unit)
            | _ => do
              (unsupported "dict.changed-during-merge" : Sem PUnit)
              pure (ForInStep.yield PUnit.unit) : Sem (ForInStep PUnit))
      pure ()) Q E s := by
    refine wpAny_bind (wpAny_dictEntries hoo hdo' ?_)
    refine wpAny_bind (wpAny_dictEpoch hoo hdo' ?_)
    refine wpAny_bind ?_
    refine wpAny_forIn_list _
      (fun rest _ s' => ∃ h' i, s' = { s with heap := h' } ∧ rest = List.range' i (eso.size - i) ∧ i ≤ eso.size ∧ h'.DictOf knd d (merged kvs (more.take i)) ∧ h'.get? o = some oo ∧ Heap.SameBut d s.heap h')
      _ ?_ ?_ _ _ ⟨s.heap, 0, rfl, by simp [List.range_eq_range'], Nat.zero_le _, by simpa [merged] using hd, hoo, Heap.SameBut.refl _ _⟩
    · rintro x rest b s' ⟨h', i, rfl, hr, hi, hd', hoo', hs'⟩
      have hlt : i < eso.size := by
        rcases Nat.lt_or_ge i eso.size with h | h
        · exact h
        · rw [Nat.sub_eq_zero_of_le h] at hr; simp at hr
      obtain ⟨rfl, hrest⟩ : x = i ∧ rest = List.range' (i + 1) (eso.size - (i + 1)) := by
        have e : eso.size - i = (eso.size - (i + 1)) + 1 := by omega
        rw [e, List.range'_succ] at hr
        injection hr with h1 h2
        exact ⟨h1, h2⟩
      refine wpAny_bind (wpAny_dictEntries hoo' hdo' ?_)
      rw [Array.getElem?_eq_getElem hlt]
      obtain ⟨kv, hkv⟩ : ∃ kv, more[x]? = some kv := ⟨more[x]'(by rw [hlen]; exact hlt), List.getElem?_eq_getElem _⟩
      obtain ⟨k, v⟩ := kv
      obtain ⟨hkey, hval⟩ := hpo.get? (e := eso[x]) (by simp [hlt]) hkv
      obtain ⟨k', hkey', hhash⟩ := hko eso[x] (Array.getElem_mem hlt)
      obtain rfl : k' = k := knd.inj _ _ _ hkey' hkey
      show wpAny _ _ (holding [eso[x].key, eso[x].val] (dictPut d eso[x].hash eso[x].key eso[x].val) >>= _) _ _ _
      rw [hhash, hval]
      have hmx : (merged kvs (more.take x)).length ≤ sizeLine := by
        have e1 := merged_length_le kvs (more.take x)
        have e2 : (more.take x).length ≤ more.length := by rw [List.length_take]; omega
        omega
      refine wpAny_bind (wpAny_holding (wpAny_dictPut_pairs (hsz := hmx) hkey hd' fun h'' hd'' hs'' => ?_))
      have hoo'' : h''.get? o = some oo := (hs''.2 o (Ne.symm hdo)).trans hoo'
      refine wpAny_bind (wpAny_dictEpoch hoo'' hdo' ?_)
      rw [if_neg (by simp)]
      exact wpAny_pure ⟨h'', x + 1, rfl, hrest, hlt, by rw [merged_take_succ kvs more x (k', v) hkv]; exact hd'', hoo'', hs'.trans hs''⟩
    · rintro b s' ⟨h', i, rfl, hr, hi, hd', hoo', hs'⟩
      have hin : i = eso.size := by
        rcases Nat.lt_or_ge i eso.size with h | h
        · have e : eso.size - i = (eso.size - (i + 1)) + 1 := by omega
          rw [e, List.range'_succ] at hr; exact nomatch hr
        · exact Nat.le_antisymm hi h
      refine wpAny_pure (hQ h' ?_ ⟨oo, eso, epo, hoo', hco, hdo', hko, hpo, hno⟩ hs')
      rw [hin, ← hlen, List.take_length] at hd'; exact hd'
  refine wpAny_bind (wpAny_dictEntries hod hdd ?_)
  split
  · refine wpAny_bind (wpAny_dictEntries hoo hdo' ?_)
    refine wpAny_bind (wpAny_of_eq (a := PUnit.unit) ?_ loop)
    rw [← Array.forIn_toList]
    refine forIn_yield_id _ fun e he c => ?_
    obtain ⟨k, hkey, _⟩ := hko e (Array.mem_toList_iff.mp he)
    have z := knd.byValue k _ hkey
    cases q : e.key with
    | ref a => rw [q] at z; exact absurd z Bool.false_ne_true
    | _ => rfl
  · exact loop

theorem forIn_gatherM (m : Option Addr) (f : (Option (Sem Value) × Sem Value) → (Option Addr × List (Sem Value × Sem Value)) → Sem (ForInStep (Option Addr × List (Sem Value × Sem Value))))
    (hf : ∀ (p : Sem Value × Sem Value) (run : List (Sem Value × Sem Value)), run.length + 1 < 17 → f (some p.1, p.2) (m, run) = pure (.yield (m, run ++ [p]))) :
    ∀ (items run : List (Sem Value × Sem Value)), run.length + items.length < 17 → forIn (items.map fun p => (some p.1, p.2)) (m, run) f = pure (m, run ++ items)
  | [], run, _ => by simp
  | p :: rest, run, h => by
    rw [List.map_cons, List.forIn_cons, hf p run (by simp at h; omega), pure_bind]
    have := forIn_gatherM m f hf rest (run ++ [p]) (by simp at h ⊢; omega)
    simpa using this
/-- a dict display of all pairs of v, then of some written ones -/
theorem wpAny_dictDisplay_spread {v : Sem Value} {pairs : List (Sem Value × Sem Value)} {Q : Value → Shared → Prop} (h0 : pairs ≠ []) (hlen : pairs.length < 17)
    (h : wpAny (model prog w) A v (fun m s₁ => ∃ o kvs, m = .ref o ∧ s.heap.objs.size ≠ o ∧ (o == sysModules) = false ∧ s₁.heap.DictOf knd s.heap.objs.size [] ∧ s₁.heap.DictOf knd o kvs ∧ kvs.length ≤ sizeLine ∧
      ∀ h', h'.DictOf knd s.heap.objs.size (merged [] kvs) → Heap.SameBut s.heap.objs.size s₁.heap h' → wpAny (model prog w) A (subDict pairs) (fun q s₂ => ∃ kvs2 more, s.heap.objs.size ≠ q ∧ (q == sysModules) = false ∧ s₂.heap.DictOf knd s.heap.objs.size kvs2 ∧ s₂.heap.DictOf knd q more ∧ kvs2.length + more.length ≤ sizeLine ∧
        ∀ h', h'.DictOf knd s.heap.objs.size (merged kvs2 more) → Heap.SameBut s.heap.objs.size s₂.heap h' → Q (.ref s.heap.objs.size) { s₂ with heap := h' }) E { s₁ with heap := h' }) E
      { s with heap := s.heap.push { cls := .type "dict", data := .dict #[] } }) :
    wpAny (model prog w) A (dictDisplay ((none, v) :: pairs.map fun p => (some p.1, p.2))) Q E s := by
  unfold dictDisplay
  dsimp only
  rw [List.forIn_cons]
  simp only [List.isEmpty_nil, if_true, pure_bind, bind_assoc]
  refine wpAny_bind (wpAny_alloc ?_)
  refine wpAny_bind (wpAny_holding ?_)
  refine wpAny_mono h (fun m s₁ hm => ?_) fun _ _ e => e
  obtain ⟨o, kvs, rfl, hdo, hoS, hd, ho, hz, k⟩ := hm
  refine wpAny_bind (wpAny_onRaise (wpAny_tryCatch (wpAny_onRaise (wpAny_holding (wpAny_mergeMapping (hsz := by rw [List.length_nil]; omega) hdo hoS hd ho fun h' hd' ho' hs' => ?_)))))
  rw [forIn_gatherM (some s.heap.objs.size) _ (fun p run h => by
    have hne : ((run ++ [(p.1, p.2)]).length == 17) = false := by simp; omega
    simp only [hne, Bool.false_eq_true, if_false]) pairs [] (by simpa using hlen)]
  have hne : pairs.isEmpty = false := by cases pairs <;> first | rfl | exact absurd rfl h0
  simp only [List.nil_append, pure_bind, hne, Bool.false_eq_true, if_false, bind_assoc]
  refine wpAny_bind (wpAny_holding (wpAny_mono (k h' hd' hs') (fun q s₂ h₂ => ?_) fun _ _ e => e))
  obtain ⟨kvs2, more, hdq, hqS, hd2, hq2, hz2, k2⟩ := h₂
  refine wpAny_bind (wpAny_onRaise (wpAny_holding (wpAny_mergeMapping (hsz := hz2) hdq hqS hd2 hq2 fun h'' hd'' _ hs'' => ?_)))
  exact wpAny_pure (k2 h'' hd'' hs'')
end
end PySem
namespace L2.Hx
open PySem PySem.Spec PyProof.Rows
/-- {**d, k: v, ..} with keys ints and texts: the new dict p, then all of d in it, then the written pairs in a dict q of their own, then these in p -/
def tSpread (te : TE) (trs : List (TE × TE)) : TE := fun σ H Q => ∀ p, H p = none → te σ (upd H p (.dK [])) fun v H1 => ∃ (a : Addr) (kvs : List (Key × V)), v = .ref a ∧ H1 p = some (.dK []) ∧ H1 a = some (.dK kvs) ∧ p ≠ a ∧ kvs.length ≤ 1000 ∧
  ∀ q, upd H1 p (.dK kvs) q = none → tPairs trs σ (upd (upd H1 p (.dK kvs)) q (.dK [])) fun ps H3 => H3 q = some (.dK []) ∧ H3 p = some (.dK kvs) ∧ ∃ more : List (Key × V), ps = more.map (fun kv => (kV kv.1, kv.2)) ∧ more.length ≤ 15 ∧
    Q (.ref p) (upd (upd H3 q (.dK (mergeK [] more))) p (.dK (mergeK kvs (mergeK [] more))))
theorem pe_spread {X : Cx} {pos : Pos} {e : Expr} {keys : List (Option Expr)} {values : List Expr} {te : TE} {trs : List (TE × TE)} (he : PE X e te) (h : PPs X pos keys values trs) (hall : keys.all (·.isSome) = true) (hl : keys.length = values.length) (h0 : keys ≠ [])
    (h15 : keys.length ≤ 15) : PE X (.Dict (none :: keys) (e :: values) pos) (tSpread te trs) := by
  refine ⟨fun pins s σ H Q I q => ?_⟩
  have hn := I.hok.fresh (Nat.le_refl s.heap.objs.size)
  have I1 := I.laid (a := s.heap.objs.size) (o := .dK []) (h' := s.heap.push { cls := .type "dict", data := .dict #[] }) (t' := s.toks) (fun _ _ q => Heap.get?_push_of_some _ q) (Nat.le_refl _) (dk_empty s.heap I.big)
  have hpl := pairTrees_length keys values X.env pos hall hl
  have hp0 : pairTrees keys values X.env pos ≠ [] := by
    intro e
    rw [e] at hpl
    exact h0 (List.length_eq_zero_iff.mp hpl.symm)
  have shape : (evalEachOpt (none :: keys) X.env).zip ((evalEach (e :: values) X.env).map fun v => do let x ← v; standAt pos; pure x) = (none, (do let x ← eval e X.env; standAt pos; pure x)) :: (pairTrees keys values X.env pos).map fun p => (some p.1, p.2) := by
    show (none, (do let x ← eval e X.env; standAt pos; pure x)) :: (evalEachOpt keys X.env).zip ((evalEach values X.env).map fun v => do let x ← v; standAt pos; pure x) = _
    rw [zip_pairTrees keys values X.env pos hall hl]
  rw [arm_eval_Dict, shape]
  refine wpAny_bind (wpAny_standAt (wpAny_dictDisplay_spread (knd := mixKind X.prog X.w) hp0 (by omega) ?_))
  refine wpAny_bind (thn (he.run pins _ σ _ _ I1 (q _ hn)) fun u s1 ⟨x, H1, J1, rx, a, kvs, ex, hp, ha, hpa, hz, k⟩ => wpAny_bind (wpAny_standAt (wpAny_pure ?_)))
  subst ex
  obtain rfl : u = Value.ref a := rx
  obtain ⟨z, hd, vs, rel, dd⟩ := dk_of J1.hok ha
  obtain ⟨z0, hd0, vs0, r0, dd0⟩ := dk_of J1.hok hp
  cases r0
  have lvs : kvs.length = vs.length := Paired.length rel
  have hm : merged [] vs = vs := by
    obtain ⟨_, _, _, _, _, _, _, _, hno⟩ := id dd
    exact merged_nil_of_nodup vs hno
  have big : (2000 : Nat) ≤ sizeLine := by decide
  refine ⟨a, vs, rfl, hpa, hd, dd0, dd, by omega, fun h' dd' hs' => ?_⟩
  rw [hm] at dd'
  have he' : ∃ q, h'.get? s.heap.objs.size = some q := let ⟨q, _, _, hq, _⟩ := dd'; ⟨q, hq⟩
  have J2 : Inv X pins σ (upd H1 s.heap.objs.size (.dK kvs)) { s1 with heap := h', toks := s1.toks } := d_write J1 (by rw [hp]; exact True.intro) hs' he' (dk_new z hd0 rel dd')
  have hq := J2.hok.fresh (Nat.le_refl h'.objs.size)
  have J3 := J2.laid (a := h'.objs.size) (o := .dK []) (h' := h'.push { cls := .type "dict", data := .dict #[] }) (t' := s1.toks) (fun _ _ q => Heap.get?_push_of_some _ q) (Nat.le_refl _) (dk_empty h' J2.big)
  refine wpAny_subDict (knd := mixKind X.prog X.w) (by omega) (thn (h.run pins _ σ _ _ J3 (k _ hq)) fun ws s2 ⟨ps, H3, J4, rel4, e4, e5, more, ep, lk, q2⟩ => ?_)
  subst ep
  obtain ⟨rs, c, rk⟩ := carries_of (P := X.prog) (w := X.w) rel4
  obtain ⟨z4, hd4, vs4, r4, dd4⟩ := dk_of J4.hok e4
  cases r4
  refine ⟨rs, c, dd4, fun h3 dd3 hs3 => ?_⟩
  have hz3 : (mergeK [] more).length ≤ 15 := by
    have h1 := length_mergeK more []
    rw [List.length_nil] at h1
    omega
  have he3 : ∃ q, h3.get? h'.objs.size = some q := let ⟨q, _, _, hq, _⟩ := dd3; ⟨q, hq⟩
  have npq : s.heap.objs.size ≠ h'.objs.size := fun e => by
    have := hq
    rw [← e, upd_same] at this
    cases this
  have J5 : Inv X pins σ (upd H3 h'.objs.size (.dK (mergeK [] more))) { s2 with heap := h3, toks := s2.toks + ws.length } := d_write J4 (by rw [e4]; exact True.intro) hs3 he3 (dk_new (by omega) hd4 (rk.merge .nil) dd3)
  have e6 : upd H3 h'.objs.size (.dK (mergeK [] more)) s.heap.objs.size = some (.dK kvs) := by rw [upd_ne npq]; exact e5
  obtain ⟨z6, hd6, vs6, r6, dd6⟩ := dk_of J5.hok e6
  have l6 : kvs.length = vs6.length := Paired.length r6
  have l3 : (mergeK [] more).length = (merged [] rs).length := Paired.length (rk.merge .nil)
  refine ⟨vs6, merged [] rs, npq, hd4, dd6, dd3, by omega, fun h4 dd7 hs4 => ⟨.ref s.heap.objs.size, _, ?_, rfl, q2⟩⟩
  have he4 : ∃ q, h4.get? s.heap.objs.size = some q := let ⟨q, _, _, hq, _⟩ := dd7; ⟨q, hq⟩
  have hz4 : (mergeK kvs (mergeK [] more)).length ≤ sizeLine := by
    have h1 := length_mergeK (mergeK [] more) kvs
    omega
  exact d_write J5 (by rw [e6]; exact True.intro) hs4 he4 (dk_new hz4 hd0 ((rk.merge .nil).merge r6) dd7)
end L2.Hx

/-! Defs that raise, as promises; calls of them in a try; an own error class without arguments. -/
namespace L2.Hx
open PySem PySem.Spec PyProof.Rows
section
variable {P : Program} {w : World} {K : PySem.W.Frag} {mg : Str → Option Value} {base : Heap} {f : Addr} {fd : FuncData} {ps : List Str} {sp : Sp} {k : Nat}
/-- as okG, for a def that may raise -/
theorem okGX {x qual : Str} {st : Stmt} {N : List Str} (F : Fun K x qual st f fd) (S : FnScope N ps (defScope st)) (hn : ∀ vs H Q E, sp vs H Q E → vs.length = ps.length)
    (hbody : ∀ (cdv : Value) (A : Around) (outer : List Env) (s : Shared) (H : Hp) (vs : List V) (Q : VK) (E : XK), (A.deeper (envOfC qual (defScope st) s.heap.objs.size f cdv)).guards = some [] → Room k (A.deeper (envOfC qual (defScope st) s.heap.objs.size f cdv)) → sp vs H Q E →
      ∃ t, PSs (cxOf (L2.CX P w) P w K mg base N qual (defScope st) f cdv A outer s H E) (defBody st) t ∧ t { nx := fun _ H' => Q .non H', rt := Q } (start N vs) H) :
    FnG P w K mg base (L2.CX P w) (k + 1) f fd ps sp := by
  obtain ⟨oc, od, kV, doc, pm, an, cdv, ct, osl, rfl, lk, hcd⟩ := F.ex
  exact fng_of lk hcd S hn fun A outer s H vs Q E hgd hr hsp => hbody cdv A outer s H vs Q E hgd hr hsp
/-- a def that may raise, with its promise and its text -/
def DfX (P : Program) (w : World) (K : PySem.W.Frag) (mg : Str → Option Value) (base : Heap) (k : Nat) (x : Str) (st : Stmt) (ps : List Str) (sp : Sp) : Prop := ∃ (f : Addr) (fd : FuncData), FnG P w K mg base (L2.CX P w) k f fd ps sp ∧ Src K mg x st ps f fd
theorem DfX.mk' {x : Str} {st : Stmt} {N : List Str} {f : Addr} {fd : FuncData} (S : Src K mg x st ps f fd) (sc : FnScope N ps (defScope st)) (hn : ∀ vs H Q E, sp vs H Q E → vs.length = ps.length)
    (hbody : ∀ (cdv : Value) (A : Around) (outer : List Env) (s : Shared) (H : Hp) (vs : List V) (Q : VK) (E : XK), (A.deeper (envOfC x (defScope st) s.heap.objs.size f cdv)).guards = some [] → Room k (A.deeper (envOfC x (defScope st) s.heap.objs.size f cdv)) → sp vs H Q E →
      ∃ t, PSs (cxOf (L2.CX P w) P w K mg base N x (defScope st) f cdv A outer s H E) (defBody st) t ∧ t { nx := fun _ H' => Q .non H', rt := Q } (start N vs) H) : DfX P w K mg base (k + 1) x st ps sp := ⟨f, fd, okGX S.fn sc hn hbody, S⟩
/-- .. by keywords -/
theorem DfX.kw {x : Str} {st : Stmt} {ks : List Str} {g : {α : Type} → List α → List α} (D : DfX P w K mg base k x st ps sp) (h : ∀ (kV doc pm : Value) (an : Option Addr) (cdv ct : Value) (ws : List Value), ws.length = ps.length → bindArgs (PySem.W.fnOf x x (defArgs st) (defBody st) (defScope st) .none kV doc pm an cdv ct) ⟨[], ks.zip ws⟩ = pure (ps.zip (g ws))) :
    ∃ f fd, FnG P w K mg base (L2.CX P w) k f fd ps sp ∧ mg x = some (.ref f) ∧ PySem.W.keepIn K (.ref f) = true ∧ KwBinds K fd ps ks g := by
  obtain ⟨f, fd, a, S⟩ := D
  refine ⟨f, fd, a, S.at_, S.fn.kp, ?_⟩
  obtain ⟨oc, od, kV, doc, pm, an, cdv, ct, osl, rfl, lk, hcd⟩ := S.fn.ex
  exact fun s ws _ hl => .of_eq (h kV doc pm an cdv ct ws hl)
end
section
variable {X : Cx} {CX : CXT} {k j : Nat} {f : Addr} {fd : FuncData} {ps ks : List Str} {sp : Sp} {E : St → XK} {x : Str} {st : Stmt} {p pos : Pos} {e : Expr} {es : List Expr} {kws : List Keyword} {t tk : TA}
theorem run_gS {pins : List (Addr × Obj)} {σ : St} {H : Hp} {s : Shared} {Q : VK} {us : List Value} {vs : List V} (F : FnG X.prog X.w X.K X.mg X.base CX k f fd ps sp) (hgd : X.A.guards = some []) (hr : Room k X.A) (hb : Binds X.K fd ps []) (hx : PassesAt CX X σ (E σ))
    (I : Inv X pins σ H s) (r : Vals vs us) (h : sp vs H Q (E σ)) : wpAny (model X.prog X.w) X.A (call (.ref f) us) (EP X pins σ Q) X.xe s := by
  have hl : us.length = ps.length := by rw [← r.length]; exact F.ln _ _ _ _ h
  have b := hb s us I.kIn (by rw [List.append_nil]; exact hl)
  rw [List.append_nil] at b
  refine wpAny_call (codeAny_mono (F.go X.A X.stack s H ⟨us, []⟩ us vs Q (E σ) hgd hr I.env0 b r h) fun z s' hq => ?_)
  cases z with
  | error e => exact hx pins H s e s' I hq
  | ok fl =>
    cases fl with
    | ret u => exact I.after hq
    | next => exact hq.elim
    | brk => exact hq.elim
    | cont => exact hq.elim
theorem pe_dS (F : DfX X.prog X.w X.K X.mg X.base k x st ps sp) (hgd : X.A.guards = some []) (hr : Room j X.A) (hx : ∀ σ, PassesAt (L2.CX X.prog X.w) X σ (E σ)) (ha : PA X (e :: es) t) (hj : k ≤ j := by first | exact Nat.le_refl _ | decide) (hg : Gl X x := by rfl)
    (hdb : (x == ("__debug__" : Str)) = false := by decide) (he : starEach (e :: es) X.env = (false, eval e X.env) :: starEach es X.env := by rfl) (hpl : (backTo pos (starEach es X.env)).any (·.1) = false := by rfl) :
    PE X (.Call (.Name x p) (e :: es) [] pos) (tCallS sp E t) := by
  obtain ⟨f, fd, a, S⟩ := F
  exact ⟨fun pins s σ H Q I h => wpAny_Call_Name_kw (ld_glob I hg S.at_ (PySem.W.callWith_K (h₀ := X.base) I.ok.mod.kin S.fn.kp (thn (ha.run pos pins s σ H _ I h) fun us s1 ⟨vs, H1, I1, r, q⟩ => ⟨I1.kIn, run_gS a hgd (hr.mono hj) S.bd (hx σ) I1 r q⟩) he hpl) hdb)⟩
def tKwS (sp : Sp) (g : {α : Type} → List α → List α) (n : Nat) (E : St → XK) (tk : TA) : TE := fun σ H Q => tk σ H fun zs H2 => zs.length = n ∧ sp (g zs) H2 Q (E σ)
theorem pe_kwS {g : {α : Type} → List α → List α} (F : ∃ f fd, FnG X.prog X.w X.K X.mg X.base (L2.CX X.prog X.w) k f fd ps sp ∧ X.mg x = some (.ref f) ∧ PySem.W.keepIn X.K (.ref f) = true ∧ KwBinds X.K fd ps ks g) (hgd : X.A.guards = some []) (hr : Room j X.A) (hx : ∀ σ, PassesAt (L2.CX X.prog X.w) X σ (E σ)) (hkw : PK X kws tk)
    (hrel : ∀ {zs : List V} {ws : List Value}, Vals zs ws → Vals (g zs) (g ws)) (hj : k ≤ j := by first | exact Nat.le_refl _ | decide)
    (hg : Gl X x := by rfl) (hall : (backToKw pos (keywordEach kws X.env)).all (·.1.isSome) = true := by rfl) (hks : (backToKw pos (keywordEach kws X.env)).filterMap (·.1) = ks := by rfl) (hdb : (x == ("__debug__" : Str)) = false := by decide)
    (hpl : ((backTo pos (starEach [] X.env)).any (·.1) || (backToKw pos (keywordEach kws X.env)).any (·.1.isNone)) = false := by rfl) :
    PE X (.Call (.Name x p) [] kws pos) (tKwS sp g ps.length E tk) := by
  obtain ⟨f, fd, F, hm, hk, hb⟩ := F
  refine ⟨fun pins s σ H Q I h => wpAny_Call_Name_kw (ld_glob I hg hm ?_ hdb)⟩
  refine PySem.W.callWith_KW0 (h₀ := X.base) I.ok.mod.kin hk hall ?_ hpl
  refine thn (hkw.run pos pins s σ H _ I h) fun ws s2 ⟨zs, H2, I2, rz, hz, q2⟩ => ⟨I2.kIn, ?_⟩
  rw [hks]
  have rg := hrel rz
  refine wpAny_call (codeAny_mono (F.go X.A X.stack s2 H2 ⟨[], ks.zip ws⟩ (g ws) (g zs) Q (E σ) hgd (hr.mono hj) I2.env0 (hb s2 ws I2.kIn (rz.length.symm.trans hz)) rg q2) fun z s3 hq => ?_)
  cases z with
  | error er => exact hx σ pins H2 s2 er s3 I2 hq
  | ok fl =>
    cases fl with
    | ret u => exact I2.after hq
    | next => exact hq.elim
    | brk => exact hq.elim
    | cont => exact hq.elim
end
/-- C(), C an own exception class without own __init__ -/
theorem pmk_own0 {X : Cx} {C : Addr} {bmB : List Value} {B newId initId : String} {x : Str} {p pos : Pos} (F : ExcBaseFacts B newId initId bmB) (q : PySem.W.excIn X.K C bmB newId = true) (gC : X.mg x = some (.ref C)) (kC : PySem.W.keepIn X.K (.ref C) = true) (r : Raises X (.ref C)) (hg : Gl X x := by rfl)
    (hdb : (x == ("__debug__" : Str)) = false := by decide) : PMk X (.Call (.Name x p) [] [] pos) (fun _ H Q => Q (.ref C) none H) := by
  intro pins s σ H Q I h
  refine wpAny_Call_Name_kw (ld_glob I hg gC ?_ hdb)
  refine PySem.W.callWith_K0 I.kIn kC ?_
  show wpAny _ _ (call (.ref C) []) _ _ _
  obtain ⟨bm, N, nm, qn, bs, hdct, sn, sub, ab, col, dd, k0, k1, k2, k3, k5, mN, hC, hN, hni, T⟩ := exc_obj I.kIn q
  refine wpAny_call_exc_subT F T hC hN hni (fun h' e hm => ?_) (by show 0 ≤ sizeLine; exact Nat.zero_le _)
  exact mk_of I hm r h (I.hok.gone hm.new)
/-- what the top has of an own error class over ValueError, told of a frag -/
structure OwnExc (K : PySem.W.Frag) (mg : Str → Option Value) (x : Str) (C : Addr) : Prop where
  at_ : mg x = some (.ref C)
  exc : PySem.W.excIn K C [.type "ValueError", .type "Exception", .type "BaseException", .type "object"] "ValueError.__new__" = true
  kp : PySem.W.keepIn K (.ref C) = true
  bs : PySem.W.subIn K (.ref C) (.type "BaseException") = some true
  ty : PySem.W.typeIn K (.ref C) = some (.type "type")
  hd : PySem.W.hasDictIn K C = true
  self : PySem.W.subIn K (.ref C) (.ref C) = some true
  is_ : ExcC K C
theorem OwnExc.exm {K : PySem.W.Frag} {mg : Str → Option Value} {x : Str} {C : Addr} (T : OwnExc K mg x C) : PySem.W.exmOne K (.ref C) (.ref C) = some true := PySem.W.exm_ref T.bs T.hd T.ty T.self
/-- raise C() -/
theorem ps_raise0 {X : Cx} {W : WX} {C : Addr} {x : Str} {p pos pos2 : Pos} (hc : X.calm = true) (tk : Takes X W) (T : OwnExc X.K X.mg x C) (hg : Gl X x := by rfl) (hdb : (x == ("__debug__" : Str)) = false := by decide) :
    PS X (.Raise (some (.Call (.Name x p) [] [] pos)) none pos2) (fun _ σ H => W (.ref C) none σ H) := ps_raise hc tk (pmk_own0 PySem.F.excBase_ValueError T.exc T.at_ T.kp (raises_own T.bs T.ty) hg hdb)
end L2.Hx

/-! sorted of a tuple: of texts, of rows of ints; a list against []. -/
namespace L2.Zt
open PySem PySem.Spec PySem.W PyProof.Rows PySem.Calls
section
variable {prog : Program} {w : World} {A : Around} {E : Value → Shared → Prop} {s : Shared}
theorem collect_tup {l : Addr} {vs : List Value} {Q : List Value → Shared → Prop} (hl : s.heap.IsTuple l vs.toArray)
    (h : Q vs { s with heap := (s.heap.push (seqObj "list" #[] 0)).update s.heap.objs.size (Obj.mapSeq (· ++ vs.toArray)) }) (hsz : vs.length ≤ sizeLine) :
    wpAny (model prog w) A (collect (.ref l)) Q E s := by
  obtain ⟨o, ho, hc, n, hd⟩ := id hl
  unfold collect
  refine wpAny_bind (wpAny_runValue (codeAny_builtin entry_proto_collect' ?_))
  show wpAny _ _ (do again (.builtin "list.__iadd__" ⟨[← newList [], .ref l], []⟩)) _ _ s
  refine wpAny_bind (wpAny_newList (wpAny_pure ⟨Code.quiet_builtin _ (by decide +kernel), codeAny_builtin entry_list_iadd' ?_⟩))
  show wpAny _ _ (Builtin.List.listExtendWith (.ref s.heap.objs.size) (.ref l) (.ref s.heap.objs.size)) _ _ { s with heap := s.heap.push (seqObj "list" #[] 0) }
  unfold Builtin.List.listExtendWith
  have ho' : (s.heap.push (seqObj "list" #[] 0)).get? l = some o := Heap.get?_push_of_some _ ho
  refine wpAny_bind (wpAny_typeOf (T := "tuple") ⟨o, ho', hc⟩ ?_)
  have ht : (Value.type "tuple" == Value.type "tuple") = true := by rfl
  rw [if_pos (by rw [ht]; simp)]
  refine wpAny_bind (listItems_at ho' hd ?_)
  refine wpAny_bind (listItems_at (xs := #[]) (n := 0) (Heap.get?_push_size _ rfl) rfl ?_)
  rw [if_neg (by simp)]
  refine wpAny_bind (listUpdate_at (xs := #[]) (n := 0) (Heap.get?_push_size _ rfl) rfl ?_ (Nat.zero_le _) (by show (#[] ++ vs.toArray).size ≤ sizeLine + 1; simp only [Array.size_append, List.size_toArray, List.length_nil]; omega))
  refine wpAny_pure ?_
  show wpAny (model prog w) A (do
      let o ← load s.heap.objs.size
      match o.data with
      | .seq xs _ => pure xs.toList
      | _ => unsupported "internal:collect") Q E { s with heap := (s.heap.push (seqObj "list" #[] 0)).update s.heap.objs.size (Obj.mapSeq (· ++ vs.toArray)) }
  refine wpAny_bind (wpAny_load (get?_update_seq (Heap.get?_push_size _ rfl) _) ?_)
  show wpAny _ _ (pure ((#[] : Array Value) ++ vs.toArray).toList) Q E _
  rw [show ((#[] : Array Value) ++ vs.toArray).toList = vs by simp]
  exact wpAny_pure h
theorem sorted_of_sortT {l : Addr} {vs : List Value} {kw : List (Str × Value)} {Q : Value → Shared → Prop} (hl : s.heap.IsTuple l vs.toArray) (hL : vs.length ≤ sizeLine) (ha1 : argsOk "sorted" ⟨[.ref l], kw⟩) (ha2 : ∀ x, argsOk "list.sort" ⟨[.ref x], kw⟩)
    (body : ∀ E' : Value → Shared → Prop, wpAny (model prog w) A.in1.in1 (Builtin.«list.sort» ⟨[.ref (s.heap.objs.size + 1)], kw⟩) (fun f s' => f = .done (.ret .none) ∧ Q (.ref (s.heap.objs.size + 1)) s') E' { s with heap := copyHeap s.heap vs }) :
    wpAny (model prog w) A (call (.builtin "sorted") [.ref l] kw) Q E s := by
  refine call_function_entry_kw kind_sorted plain_sorted entry_sorted ha1 ?_
  unfold Builtin.«sorted»
  refine wpAny_bind (m := checkCount "sorted" 1 1 _) (wpAny_pure ?_)
  refine wpAny_bind (collect_tup hl ?_ hL)
  refine wpAny_bind (wpAny_newList ?_ hL)
  have hsz : ((s.heap.push (seqObj "list" #[] 0)).update s.heap.objs.size (Obj.mapSeq (· ++ vs.toArray))).objs.size = s.heap.objs.size + 1 := by
    rw [Heap.size_update, size_push']
  show wpAny _ _ _ _ _ { s with heap := copyHeap s.heap vs }
  rw [hsz]
  refine wpAny_bind (wpAny_holding (wpAny_call_entry_kw slot_list_sort ⟨_, copyHeap_at s.heap vs, rfl⟩ entry_list_sort ?body (ha2 _)))
  case body =>
    show wpAny (model prog w) A.in1.in1 (Builtin.«list.sort» ⟨[.ref (s.heap.objs.size + 1)], kw⟩) _ _ _
    refine wpAny_mono (body _) (fun f s' hf => ?_) fun _ _ e => e
    obtain ⟨rfl, hq⟩ := hf
    exact ⟨_, rfl, wpAny_pure ⟨_, rfl, hq⟩⟩
theorem sorted_valsT {l : Addr} {κ : KeyKind} {vs : List Value} {Q : Value → Shared → Prop} (hl : s.heap.IsTuple l vs.toArray) (S : SortsAt prog w A.in1.in1 { s with heap := sortingHeap (copyHeap s.heap vs) (s.heap.objs.size + 1) vs } κ vs) (hL : vs.length ≤ sizeLine)
    (h : Q (.ref (s.heap.objs.size + 1)) { s with heap := sortedAll s.heap vs (sortVals κ false vs vs).toArray }) : wpAny (model prog w) A (call (.builtin "sorted") [.ref l]) Q E s :=
  sorted_of_sortT hl hL (args_sorted1 _) (fun _ => args_list_sort _) fun _ => list_sort_vals (s := { s with heap := copyHeap s.heap vs }) (copyHeap_at s.heap vs) S hL ⟨rfl, h⟩
end
end L2.Zt
namespace L2
open PySem PySem.Spec PyProof.Rows
section
variable {X : Cx}
/-- sorted(xs), xs a tuple of tuples that compare; R is what is known of them -/
def rSortedTW (K : PySem.W.Frag) : List V → Hp → VK → Prop := fun vs H Q => ∃ (a : Addr) (xs : List V) (β : Type) (bs : List β) (enc : β → PyData) (R : V → β → Prop), vs = [V.ref a] ∧ SqT K H a xs ∧ (∀ x ∈ xs, ∃ t, x = V.ref t) ∧
  Paired R xs bs ∧ Paired (fun x b => Dp K H x (enc b)) xs bs ∧ (∀ b b', PySem.W.alike (enc b) (enc b') = true) ∧ (∀ b, ∃ x r, enc b = .tuple (x :: r)) ∧ (∀ b, b ∈ bs → (enc b).depth ≤ 60) ∧
  ∀ ys p, ys.Perm xs → Paired R ys (bs.mergeSort (PySem.W.dataLe false enc)) → H p = none → Q (.ref p) (upd H p (.lst ys))
theorem cr_sortedTW (hu : X.A.units + 64 < cLine) : CallR X (.builtin "sorted") (rSortedTW X.K) := by
  intro pins s σ H vs us Q I r h
  obtain ⟨a, xs, β, bs, enc, R, rfl, hs, hx, hR, hD, al, tp, dp, q⟩ := h
  obtain ⟨its, rv, hl, hz⟩ := I.tuple hs
  obtain ⟨u, rfl, ru⟩ := vals1 r
  obtain rfl : u = Value.ref a := ru
  obtain ⟨e1, e2⟩ := refs_back rv hx
  have er : PySem.W.EachIs (fun v b => ∃ as, Reads s.heap v (enc b) as) its bs := by
    refine each_of_paired ?_
    rw [e1] at hD
    exact paired_reads I (paired_val hD) e2
  have eR : PySem.W.EachIs (fun v b => R (backV v) b) its bs := by
    rw [e1] at hR
    exact each_of_paired (paired_val hR)
  have er' : PySem.W.EachIs (fun v b => ∃ as, Reads (PySem.W.sortingHeap (PySem.W.copyHeap s.heap its) (s.heap.objs.size + 1) its) v (enc b) as) its bs := er.mono fun _ _ ⟨as, r⟩ => ⟨as, PyProof.Rows.Reads.keeps (fun _ _ => PySem.W.sorting_copy_old) r⟩
  have hal := PySem.W.AllAlike.of (bs := bs) al
  have dm : ∀ d, d ∈ bs.map enc → d.depth ≤ 60 := fun d m => by
    obtain ⟨b, mb, rfl⟩ := List.mem_map.mp m
    exact dp b mb
  refine Zt.sorted_valsT hl (PySem.W.SortsAt.data (s := { s with heap := PySem.W.sortingHeap (PySem.W.copyHeap s.heap its) (s.heap.objs.size + 1) its }) (PySem.W.each_map (R := fun v d => ∃ as, Reads (PySem.W.sortingHeap (PySem.W.copyHeap s.heap its) (s.heap.objs.size + 1) its) v d as) enc er') hal (PySem.W.Sortable.tuples tp) (fun d m => ?_)) (by rw [← rv.length]; exact hz) ?_
  · have := dm d m
    show X.A.units + 1 + 1 + d.depth < cLine
    omega
  · have hp : (PySem.W.sortVals (PySem.W.dataKind (PySem.W.sortingHeap (PySem.W.copyHeap s.heap its) (s.heap.objs.size + 1) its) (bs.map enc)) false its its).Perm its := sortVals_perm
    have hb := paired_back (paired_of_each (PySem.W.sortVals_data (h' := PySem.W.sortingHeap (PySem.W.copyHeap s.heap its) (s.heap.objs.size + 1) its) false eR er' hal))
    generalize PySem.W.sortVals (PySem.W.dataKind (PySem.W.sortingHeap (PySem.W.copyHeap s.heap its) (s.heap.objs.size + 1) its) (bs.map enc)) false its its = out at hp hb ⊢
    have h3 : ∀ u ∈ out, ∃ a, u = Value.ref a := fun u hu => e2 u (hp.mem_iff.mp hu)
    obtain ⟨n, hn⟩ := sortedAll_at s.heap its out.toArray
    refine ⟨.ref (s.heap.objs.size + 1), upd H (s.heap.objs.size + 1) (.lst (out.map backV)), I.laid (t' := s.toks) (fun b o e => sortedAll_old e) (Nat.le_succ _) ⟨?_, out, n, vals_back h3, hn⟩, rfl, q _ _ ?_ hb (I.hok.fresh (Nat.le_succ _))⟩
    · rw [List.length_map, hp.length_eq, ← rv.length]; exact hz
    · rw [e1]; exact hp.map backV

/-- sorted(xs), xs texts -/
def rSortedTS (K : PySem.W.Frag) : List V → Hp → VK → Prop := fun vs H Q => ∃ (a : Addr) (xs : List Str), vs = [V.ref a] ∧ (SqL K H a (xs.map V.str) ∨ SqT K H a (xs.map V.str)) ∧ ∀ p, H p = none → Q (.ref p) (upd H p (.lst ((xs.mergeSort (PySem.W.dataLe false PyData.str)).map V.str)))
theorem strs_each : ∀ {xs : List Str} {its : List Value}, Vals (xs.map V.str) its → PySem.W.EachIs (fun v b => ∃ t, v = Value.str b t) its xs
  | [], _, .nil => .nil
  | _ :: _, _, .cons r t => .cons r (strs_each t)
theorem each_strs : ∀ {xs : List Str} {its : List Value}, PySem.W.EachIs (fun v b => ∃ t, v = Value.str b t) its xs → Vals (xs.map V.str) its
  | _, _, .nil => .nil
  | _, _, .cons r t => .cons r (each_strs t)
theorem cr_sortedTS (hu : X.A.units + 64 < cLine) : CallR X (.builtin "sorted") (rSortedTS X.K) := by
  intro pins s σ H vs us Q I r h
  obtain ⟨a, xs, rfl, hs, q⟩ := h
  obtain ⟨u, rfl, ru⟩ := vals1 r
  obtain rfl : u = Value.ref a := ru
  have main : ∀ (its : List Value), Vals (xs.map V.str) its → its.length ≤ sizeLine → (s.heap.IsList a its.toArray ∨ s.heap.IsTuple a its.toArray) → wpAny (model X.prog X.w) X.A (call (.builtin "sorted") [.ref a]) (EP X pins σ Q) X.xe s := by
    intro its rv hz hl
    have eR := strs_each rv
    have er : ∀ h : Heap, PySem.W.EachIs (fun v b => ∃ as, Reads h v (PyData.str b) as) its xs := fun h => eR.mono fun v b ⟨t, e⟩ => by
      rw [e]
      exact ⟨_, .str b t⟩
    have hal : PySem.W.AllAlike (xs.map PyData.str) := PySem.W.AllAlike.of (bs := xs) (fun b b' => by simp [PySem.W.alike])
    have hk : PySem.W.Sortable (xs.map PyData.str) := PySem.W.Sortable.others (fun b => ⟨(fun z => nomatch z), fun _ z => nomatch z⟩)
    have S := PySem.W.SortsAt.data (prog := X.prog) (w := X.w) (A := X.A.in1.in1) (s := { s with heap := PySem.W.sortingHeap (PySem.W.copyHeap s.heap its) (s.heap.objs.size + 1) its }) (PySem.W.each_map (R := fun v d => ∃ as, Reads (PySem.W.sortingHeap (PySem.W.copyHeap s.heap its) (s.heap.objs.size + 1) its) v d as) PyData.str (er _)) hal hk (fun d m => by
      obtain ⟨b, mb, rfl⟩ := List.mem_map.mp m
      show X.A.units + 1 + 1 + (PyData.str b).depth < cLine
      simp only [PyData.depth]
      omega)
    have fin : EP X pins σ Q (.ref (s.heap.objs.size + 1)) { s with heap := sortedAll s.heap its (PySem.W.sortVals (PySem.W.dataKind (PySem.W.sortingHeap (PySem.W.copyHeap s.heap its) (s.heap.objs.size + 1) its) (xs.map PyData.str)) false its its).toArray } := by
      have hp : (PySem.W.sortVals (PySem.W.dataKind (PySem.W.sortingHeap (PySem.W.copyHeap s.heap its) (s.heap.objs.size + 1) its) (xs.map PyData.str)) false its its).Perm its := sortVals_perm
      have hb := each_strs (PySem.W.sortVals_data (h' := PySem.W.sortingHeap (PySem.W.copyHeap s.heap its) (s.heap.objs.size + 1) its) false eR (er _) hal)
      generalize PySem.W.sortVals (PySem.W.dataKind (PySem.W.sortingHeap (PySem.W.copyHeap s.heap its) (s.heap.objs.size + 1) its) (xs.map PyData.str)) false its its = out at hp hb ⊢
      obtain ⟨n, hn⟩ := sortedAll_at s.heap its out.toArray
      refine ⟨.ref (s.heap.objs.size + 1), upd H (s.heap.objs.size + 1) (.lst _), I.laid (t' := s.toks) (fun b o e => sortedAll_old e) (Nat.le_succ _) ⟨?_, out, n, hb, hn⟩, rfl, q _ (I.hok.fresh (Nat.le_succ _))⟩
      rw [hb.length, hp.length_eq]
      exact hz
    rcases hl with hl | hl
    · exact PySem.W.sorted_vals hl S hz fin
    · exact Zt.sorted_valsT hl S hz fin
  rcases hs with hs | hs
  · obtain ⟨its, rv, hl, hz⟩ := I.list hs
    exact main its rv (by rw [← rv.length]; exact hz) (.inl hl.isList)
  · obtain ⟨its, rv, hl, hz⟩ := I.tuple hs
    exact main its rv (by rw [← rv.length]; exact hz) (.inr hl)
/-- xs == [], xs != [] -/
def rEqNilL (K : PySem.W.Frag) : R2 := fun x y H Q => ∃ a b xs, x = .ref a ∧ y = .ref b ∧ SqL K H a xs ∧ SqL K H b [] ∧ Q (.bl xs.isEmpty) H
def rNeNilL (K : PySem.W.Frag) : R2 := fun x y H Q => ∃ a b xs, x = .ref a ∧ y = .ref b ∧ SqL K H a xs ∧ SqL K H b [] ∧ Q (.bl (!xs.isEmpty)) H
theorem op_eqNilL (hu : X.A.units + 64 < cLine) : OpR X (compareOp .Eq) (rEqNilL X.K) := by
  intro pins s σ H x y v u Q I rx ry h
  obtain ⟨a, b, xs, rfl, rfl, ha, hb, q⟩ := h
  cases rx
  cases ry
  obtain ⟨its, r1, p1, _⟩ := I.list ha
  obtain ⟨its2, r2, p2, _⟩ := I.list hb
  cases r2
  cases r1 with
  | nil => exact SeqAt.RcAt.lists (e := fun _ => true) p1.isList p2.isList rfl (by omega) (fun j h1 h2 => absurd h2 (by simp)) _ _ _ _ ⟨.bl _, H, I, rfl, q⟩
  | cons r t => exact SeqAt.RcAt.lists_lengths p1.isList p2.isList (by simp) (by omega) _ _ _ _ ⟨.bl _, H, I, rfl, q⟩
theorem op_neNilL (hu : X.A.units + 64 < cLine) : OpR X (compareOp .NotEq) (rNeNilL X.K) := by
  intro pins s σ H x y v u Q I rx ry h
  obtain ⟨a, b, xs, rfl, rfl, ha, hb, q⟩ := h
  cases rx
  cases ry
  obtain ⟨its, r1, p1, _⟩ := I.list ha
  obtain ⟨its2, r2, p2, _⟩ := I.list hb
  cases r2
  cases r1 with
  | nil => exact SeqAt.RcNeAt.lists (e := fun _ => true) p1.isList p2.isList rfl (by omega) (fun j h1 h2 => absurd h2 (by simp)) _ _ _ _ ⟨.bl _, H, I, rfl, q⟩
  | cons r t => exact SeqAt.RcNeAt.lists_lengths p1.isList p2.isList (by simp) (by omega) _ _ _ _ ⟨.bl _, H, I, rfl, q⟩
end
end L2

/-! Methods and instances of own classes, for promises that know that no repr is under way. -/
namespace L2.Hx
open PySem PySem.Spec PyProof.Rows
section
variable {P : Program} {w : World} {K : PySem.W.Frag} {mg : Str → Option Value} {base : Heap} {k : Nat} {C : Addr} {m qual : Str} {ps : List Str} {sp : Sp} {st : Stmt}
/-- a method of the text, where it stands -/
structure SrcM (K : PySem.W.Frag) (C : Addr) (m qual : Str) (st : Stmt) (ps : List Str) (f : Addr) (fd : FuncData) : Prop where
  fn : Fun K m qual st f fd
  at_ : Meth K C m f
  bd : Binds K fd ps []
/-- __init__ of a class that is made -/
structure SrcI (K : PySem.W.Frag) (C : Addr) (qual : Str) (st : Stmt) (ps : List Str) (f : Addr) (fd : FuncData) : Prop where
  fn : Fun K "__init__" qual st f fd
  mks : Mk K C f
  bd : Binds K fd ps []
/-- with their promises -/
def DfM (P : Program) (w : World) (K : PySem.W.Frag) (mg : Str → Option Value) (base : Heap) (k : Nat) (C : Addr) (m : Str) (ps : List Str) (sp : Sp) : Prop := ∃ (f : Addr) (fd : FuncData), FnG P w K mg base CX0 k f fd ps sp ∧ Meth K C m f ∧ Binds K fd ps []
def DfI (P : Program) (w : World) (K : PySem.W.Frag) (mg : Str → Option Value) (base : Heap) (k : Nat) (C : Addr) (ps : List Str) (sp : Sp) : Prop := ∃ (f : Addr) (fd : FuncData), FnG P w K mg base CX0 k f fd ps sp ∧ Mk K C f ∧ Binds K fd ps []
theorem DfM.mk' {N : List Str} {f : Addr} {fd : FuncData} (S : SrcM K C m qual st ps f fd) (sc : FnScope N ps (defScope st)) (hn : ∀ vs H Q E, sp vs H Q E → vs.length = ps.length)
    (hbody : ∀ (cdv : Value) (A : Around) (outer : List Env) (s : Shared) (H : Hp) (vs : List V) (Q : VK) (E : XK), (A.deeper (envOfC qual (defScope st) s.heap.objs.size f cdv)).guards = some [] → Room k (A.deeper (envOfC qual (defScope st) s.heap.objs.size f cdv)) → sp vs H Q E →
      ∃ t, PSs (cxOf CX0 P w K mg base N qual (defScope st) f cdv A outer s H E).nox (defBody st) t ∧ t { nx := fun _ H' => Q .non H', rt := Q } (start N vs) H) : DfM P w K mg base (k + 1) C m ps sp :=
  ⟨f, fd, okG S.fn sc hn hbody, S.at_, S.bd⟩
theorem DfI.mk' {N : List Str} {f : Addr} {fd : FuncData} (S : SrcI K C qual st ps f fd) (sc : FnScope N ps (defScope st)) (hn : ∀ vs H Q E, sp vs H Q E → vs.length = ps.length)
    (hbody : ∀ (cdv : Value) (A : Around) (outer : List Env) (s : Shared) (H : Hp) (vs : List V) (Q : VK) (E : XK), (A.deeper (envOfC qual (defScope st) s.heap.objs.size f cdv)).guards = some [] → Room k (A.deeper (envOfC qual (defScope st) s.heap.objs.size f cdv)) → sp vs H Q E →
      ∃ t, PSs (cxOf CX0 P w K mg base N qual (defScope st) f cdv A outer s H E).nox (defBody st) t ∧ t { nx := fun _ H' => Q .non H', rt := Q } (start N vs) H) : DfI P w K mg base (k + 1) C ps sp :=
  ⟨f, fd, okG S.fn sc hn hbody, S.mks, S.bd⟩
theorem DfM.mono {j : Nat} (F : DfM P w K mg base j C m ps sp) (h : j ≤ k) : DfM P w K mg base k C m ps sp := let ⟨f, fd, a, b, c⟩ := F; ⟨f, fd, a.mono h, b, c⟩
theorem DfI.mono {j : Nat} (F : DfI P w K mg base j C ps sp) (h : j ≤ k) : DfI P w K mg base k C ps sp := let ⟨f, fd, a, b, c⟩ := F; ⟨f, fd, a.mono h, b, c⟩
theorem DfM.imp {sp' : Sp} (F : DfM P w K mg base k C m ps sp) (h : ∀ vs H Q E, sp' vs H Q E → sp vs H Q E) : DfM P w K mg base k C m ps sp' := let ⟨f, fd, a, b, c⟩ := F; ⟨f, fd, a.imp h, b, c⟩
end
section
variable {X : Cx} {k j : Nat} {C : Addr} {m x : Str} {ps : List Str} {sp : Sp} {p pos apos : Pos} {e o : Expr} {es : List Expr} {ta : TE} {t : TA}
/-- o.m(e, ..) -/
theorem pe_m {pl : Sem Bool} (F : DfM X.prog X.w X.K X.mg X.base k C m ps sp) (c : Cls X.K C) (hgd : X.A.guards = some []) (hr : Room j X.A) (he : PE X o ta) (ha : PA X (e :: es) t) (hj : k ≤ j := by first | exact Nat.le_refl _ | decide)
    (hst : starEach (e :: es) X.env = (false, eval e X.env) :: starEach es X.env := by rfl) (hpl : (backTo pos (starEach es X.env)).any (·.1) = false := by rfl)
    (ht : eval (.Call (.Attribute o m apos) (e :: es) [] pos) X.env = (do
      let ov ← eval o X.env
      standAt apos.atName
      let (f, first) ← holding [ov] (getMethod ov m pl)
      callWith pos f first (backTo pos (starEach (e :: es) X.env)) (backToKw pos (keywordEach [] X.env))) := by rfl) :
    PE X (.Call (.Attribute o m apos) (e :: es) [] pos) (tMeth C m sp [] E0 ta t) := by
  obtain ⟨f, fd, F, hm, hb⟩ := F
  refine ⟨fun pins s σ H Q I h => ?_⟩
  refine PySem.W.methodCall_KW (pl := pl) (thn (he.run pins s σ H _ I h) fun u s1 ⟨x, H1, I1, rx, a, dx, fs, ex, ea, l, q⟩ => ?_) ht
  subst ex
  obtain rfl : u = Value.ref a := rx
  refine getmeth_ok I1 ea c hm l ?_
  refine PySem.W.callWith_K (first := [.ref a]) (h₀ := X.base) I.ok.mod.kin hm.kp (thn (ha.run pos pins s1 σ H1 _ I1 q) fun us s2 ⟨vs, H2, I2, r, q2⟩ => ⟨I2.kIn, ?_⟩) hst hpl
  exact run_g (us := .ref a :: us) (vs := .ref a :: vs) F hgd (hr.mono hj) hb .nil pass0 I2 (.cons rfl r) q2
/-- o.m() -/
theorem pe_m0 {pl : Sem Bool} (F : DfM X.prog X.w X.K X.mg X.base k C m ps sp) (c : Cls X.K C) (hgd : X.A.guards = some []) (hr : Room j X.A) (he : PE X o ta) (hj : k ≤ j := by first | exact Nat.le_refl _ | decide)
    (ht : eval (.Call (.Attribute o m apos) [] [] pos) X.env = (do
      let ov ← eval o X.env
      standAt apos.atName
      let (f, first) ← holding [ov] (getMethod ov m pl)
      callWith pos f first (backTo pos (starEach [] X.env)) (backToKw pos (keywordEach [] X.env))) := by rfl) :
    PE X (.Call (.Attribute o m apos) [] [] pos) (tMeth C m sp [] E0 ta tNil) := by
  obtain ⟨f, fd, F, hm, hb⟩ := F
  refine ⟨fun pins s σ H Q I h => ?_⟩
  refine PySem.W.methodCall_KW (pl := pl) (thn (he.run pins s σ H _ I h) fun u s1 ⟨x, H1, I1, rx, a, dx, fs, ex, ea, l, q⟩ => ?_) ht
  subst ex
  obtain rfl : u = Value.ref a := rx
  refine getmeth_ok I1 ea c hm l ?_
  exact PySem.W.callWith_K0 (first := [.ref a]) I1.kIn hm.kp (run_g (us := [.ref a]) (vs := [.ref a]) F hgd (hr.mono hj) hb .nil pass0 I1 (.cons rfl .nil) q)
theorem run_mkg {f : Addr} {fd : FuncData} {pins : List (Addr × Obj)} {σ : St} {H : Hp} {s : Shared} {Q : VK} {us : List Value} {vs : List V} (M : Mk X.K C f) (F : FnG X.prog X.w X.K X.mg X.base CX0 k f fd ps sp) (hgd : X.A.guards = some []) (hr : Room (k + 1) X.A) (hb : Binds X.K fd ps [])
    (I : Inv X pins σ H s) (r : Vals vs us)
    (h : ∀ x dx, H x = none → H dx = none → dx ≠ x → sp (.ref x :: (vs ++ [])) (upd (upd H dx (.own x)) x (.ins C dx [])) (fun v H2 => v = .non ∧ Q (.ref x) H2) E0) :
    wpAny (model X.prog X.w) X.A (call (.ref C) us) (EP X pins σ Q) X.xe s := by
  have hq := h (s.heap.objs.size + 1) s.heap.objs.size (I.hok.fresh (Nat.le_succ _)) (I.hok.fresh (Nat.le_refl _)) (Nat.ne_of_lt (Nat.lt_succ_self _))
  have I2 := Inv.made (C := C) I
  have r2 : Vals (V.ref (s.heap.objs.size + 1) :: (vs ++ [])) (Value.ref (s.heap.objs.size + 1) :: (us ++ [])) := .cons rfl (r.append .nil)
  have hl : (Value.ref (s.heap.objs.size + 1) :: us ++ []).length = ps.length := by
    have e := r2.length
    rw [F.ln _ _ _ _ hq] at e
    exact e.symm
  have hbb := hb _ (Value.ref (s.heap.objs.size + 1) :: us) I2.kIn hl
  rw [List.cons_append] at hbb
  refine wpAny_call (make_map (f := f) I.kIn M.makes M.init (beq_iff_eq.mp M.fn) (codeAny_mono (F.go _ X.stack _ _ ⟨Value.ref (s.heap.objs.size + 1) :: us, []⟩ (Value.ref (s.heap.objs.size + 1) :: (us ++ [])) _ _ E0 ?hg (hr.make C us [])
    (I2.env0.make C us []) hbb r2 hq) fun r s' hq' => ?_))
  case hg => exact hgd
  cases r with
  | error e => exact pass0 pins σ _ _ e s' I2 hq'
  | ok fl =>
    cases fl with
    | ret u =>
      obtain ⟨v, H', I3, rv, ev, q3⟩ := I2.after hq'
      subst ev
      exact ⟨rv, ⟨V.ref (s.heap.objs.size + 1), H', I3, rfl, q3⟩⟩
    | next => exact False.elim hq'
    | brk => exact False.elim hq'
    | cont => exact False.elim hq'
/-- C(e, ..) -/
theorem pe_mk (F : DfI X.prog X.w X.K X.mg X.base k C ps sp) (hgd : X.A.guards = some []) (hr : Room j X.A) (hm : X.mg x = some (.ref C)) (ha : PA X (e :: es) t) (hj : k + 1 ≤ j := by first | exact Nat.le_refl _ | decide) (hg : Gl X x := by rfl)
    (hdb : (x == ("__debug__" : Str)) = false := by decide) (he : starEach (e :: es) X.env = (false, eval e X.env) :: starEach es X.env := by rfl) (hpl : (backTo pos (starEach es X.env)).any (·.1) = false := by rfl) :
    PE X (.Call (.Name x p) (e :: es) [] pos) (tMake C sp [] E0 t) := by
  obtain ⟨f, fd, F, M, hb⟩ := F
  refine ⟨fun pins s σ H Q I h => ?_⟩
  refine wpAny_Call_Name_kw (ld_glob I hg hm ?_ hdb)
  refine PySem.W.callWith_K (h₀ := X.base) I.ok.mod.kin M.kp (thn (ha.run pos pins s σ H _ I h) fun us s1 ⟨vs, H1, I1, r, q⟩ => ⟨I1.kIn, ?_⟩) he hpl
  exact run_mkg M F hgd (hr.mono hj) hb I1 r q
end
/-! ### what the top has of a class -/
inductive NoAll (K : PySem.W.Frag) (C : Addr) : List Str → Prop
  | nil : NoAll K C []
  | cons {f : Str} {fs : List Str} : PySem.W.findIn K (.ref C) f = some none → NoAll K C fs → NoAll K C (f :: fs)
theorem NoAll.get {K : PySem.W.Frag} {C : Addr} {f : Str} : ∀ {fs : List Str}, NoAll K C fs → f ∈ fs → NoAttr K C f
  | _, .cons h t, m => by
    rcases List.mem_cons.mp m with rfl | m
    · exact h
    · exact NoAll.get t m
structure ClsT (K : PySem.W.Frag) (mg : Str → Option Value) (x : Str) (fs : List Str) (C : Addr) : Prop where
  cl : Cls K C
  at_ : mg x = some (.ref C)
  no : NoAll K C fs
theorem cls_of {K : PySem.W.Frag} {mg : Str → Option Value} {h : Heap} {x : Str} {fs : List Str} {C : Addr} (X : K.In h) (G : h.Ns mainGlobals mg) (aC : PySem.W.nsIn K mainGlobals x = some (some (.ref C))) (pg : PySem.W.plainGet K C Str.empty = true) (hd : PySem.W.hasDictIn K C = true) (po : PySem.W.plainOver K C = true)
    (sa : PySem.W.findIn K (.ref C) "__setattr__" = some (some (.builtin "object.__setattr__"))) (no : NoAll K C fs) : ClsT K mg x fs C := ⟨⟨pg, hd, po, sa⟩, PySem.W.mg_of X G aC, no⟩
theorem srcM_of {K : PySem.W.Frag} {m qual : Str} {st : Stmt} {ps : List Str} {C f : Addr} {oc kV doc pm cdv ct : Value} {od an : Option Addr} {osl : Array (Option Value)}
    (a : PySem.W.findIn K (.ref C) m = some (some (.ref f))) (i : PySem.W.isFn K (.ref f) = true) (l : K.lookup f = some ⟨oc, od, .func (PySem.W.fnOf m qual (defArgs st) (defBody st) (defScope st) .none kV doc pm an cdv ct), osl⟩) (c : PySem.W.codeIn K cdv qual = true) (kf : PySem.W.keepIn K (.ref f) = true)
    (hb : ∀ (kV doc pm : Value) (an : Option Addr) (cdv ct : Value) (us : List Value), us.length = ps.length → bindArgs (PySem.W.fnOf m qual (defArgs st) (defBody st) (defScope st) .none kV doc pm an cdv ct) ⟨us, []⟩ = pure (ps.zip us)) : ∃ f fd, SrcM K C m qual st ps f fd :=
  ⟨f, _, fun_mk l c kf, ⟨a, i, kf⟩, (fun_mk l c kf).binds hb⟩
theorem srcI_of {K : PySem.W.Frag} {qual : Str} {st : Stmt} {ps : List Str} {C f : Addr} {oc kV doc pm cdv ct : Value} {od an : Option Addr} {osl : Array (Option Value)}
    (a : PySem.W.findIn K (.ref C) "__init__" = some (some (.ref f))) (i : PySem.W.isFn K (.ref f) = true) (l : K.lookup f = some ⟨oc, od, .func (PySem.W.fnOf "__init__" qual (defArgs st) (defBody st) (defScope st) .none kV doc pm an cdv ct), osl⟩) (c : PySem.W.codeIn K cdv qual = true) (kf : PySem.W.keepIn K (.ref f) = true)
    (mk : PySem.W.makesIn K C = true) (kc : PySem.W.keepIn K (.ref C) = true)
    (hb : ∀ (kV doc pm : Value) (an : Option Addr) (cdv ct : Value) (us : List Value), us.length = ps.length → bindArgs (PySem.W.fnOf "__init__" qual (defArgs st) (defBody st) (defScope st) .none kV doc pm an cdv ct) ⟨us, []⟩ = pure (ps.zip us)) : ∃ f fd, SrcI K C qual st ps f fd :=
  ⟨f, _, fun_mk l c kf, ⟨mk, a, i, kc⟩, (fun_mk l c kf).binds hb⟩
end L2.Hx

/-! Own error classes whose __init__ keeps one field: made, raised, caught, asked. -/
namespace L2.Hx
open PySem PySem.Spec PyProof.Rows
/-- what the top has of such a class -/
structure OwnFld (K : PySem.W.Frag) (mg : Str → Option Value) (x fld : Str) (C : Addr) : Prop where
  at_ : mg x = some (.ref C)
  oex : OexC K C
  xf : XfC K C
  is_ : ExcC K C
  no : PySem.W.findIn K (.ref C) fld = some none
  exm : PySem.W.exmOne K (.ref C) (.ref C) = some true
structure SrcE (K : PySem.W.Frag) (C : Addr) (qual : Str) (st : Stmt) (ps : List Str) (f : Addr) (fd : FuncData) : Prop where
  fn : Fun K "__init__" qual st f fd
  iC : PySem.W.findIn K (.ref C) "__init__" = some (some (.ref f))
  tI : PySem.W.typeIn K (.ref f) = some (.type "function")
  bd : Binds K fd ps []
/-- self.fld = value -/
def spEIni (K : PySem.W.Frag) (C : Addr) (fld : Str) : Sp := fun vs H Q _ => ∃ (a : Addr) (v : V), vs = [.ref a, v] ∧ OexC K C ∧ PySem.W.findIn K (.ref C) fld = some none ∧ H a = some (exo a C none) ∧
  ∀ dx, H dx = none → dx ≠ a → Q .non (upd (upd H dx (exd dx [(fld, v)])) a (exo a C (some dx)))
section
variable {X : Cx} {a D : Addr} {oe : Obj} {d : Option Addr} {pn : List (Addr × Obj)}
/-- isinstance(e, c), e the exception that the suite holds, with a dict or none -/
def rIsEd (K : PySem.W.Frag) (D a : Addr) (d : Option Addr) : List V → Hp → VK → Prop := fun xs H Q => ∃ (c : V) (cv : Value) (b : Bool), xs = [.ref a, c] ∧ (∀ u, RelV c u → u = cv) ∧ PySem.W.kitOne K (.ref D) cv = some b ∧ (∃ dd fs, d = some dd ∧ H dd = some (.xd fs)) ∧ Q (.bl b) H
theorem call_isEd (C : ExcC X.K D) (hz : Zc (.ref D) d oe) (hf : ∃ vs, oe.data = .fields vs) : CallR (X.suite a ((a, oe) :: pn)) (.builtin "isinstance") (rIsEd X.K D a d) := by
  intro pins s σ H xs us Q I r h
  obtain ⟨c, cv, b, rfl, hcv, e, ⟨dd, fs, rfl, hdd⟩, q⟩ := h
  cases r with
  | cons rx r =>
    cases r with
    | cons rt r =>
      cases r
      cases rx
      have ec := hcv _ rt
      subst ec
      have ha := (I.pin (a, oe) (List.mem_append.mpr (.inl List.mem_cons_self))).1
      obtain ⟨vs, hv⟩ := hf
      have hx : ObjOk X.prog X.w H s.heap dd (.xd fs) := I.hok dd _ hdd
      obtain ⟨mA, hns, _⟩ := hx
      obtain ⟨od, ho, _⟩ := lookIn_ns hns
      have J : PySem.W.InstAt s.heap a oe D (some od) := ⟨ha, hz.1, by unfold PySem.W.notCls; rw [hv] <;> rfl, by rw [hz.2]; exact ho⟩
      have hcl : (PySem.W.clsIn X.K D).isSome = true := by
        obtain ⟨cd, hc, _⟩ := PySem.W.any_some C.hd
        rw [hc]
        rfl
      exact PySem.W.kia_one (PySem.W.kitx_exc hcl C.hg C.hk C.hs C.ha C.hn C.ht C.hm) I.kIn J e (fun z => nomatch z) fun tk => ⟨.bl b, H, I.kept (t' := tk) fun _ _ z => z, rfl, q⟩
end
/-- what is left of a made exception: its dict alone -/
theorem ext_raised {p l e d C : Addr} {G H : Hp} {v : V} {fld : Str} (W : Wd p l G H) (he : H e = none) (hd : H d = none) (hde : d ≠ e) : Ext p l G H G (upd (del (upd (upd (upd H e (exo e C none)) d (exd d [(fld, v)])) e (exo e C (some d))) e) d (.xd [(fld, v)])) := by
  have k : ∀ b o, H b = some o → (upd (del (upd (upd (upd H e (exo e C none)) d (exd d [(fld, v)])) e (exo e C (some d))) e) d (.xd [(fld, v)])) b = some o := fun b o q => by
    have n1 := ne_of_none q he
    have n2 := ne_of_none q hd
    rw [upd_ne n2, del_ne n1, upd_ne n1, upd_ne n2, upd_ne n1]
    exact q
  refine ⟨⟨fun b o q => k b o (W.same b o q), W.gp, W.gl, ?_, ?_⟩, Same.refl G, fun b o _ _ q => k b o q, fun b o _ g => g⟩
  · obtain ⟨m, t, m0, m1, q⟩ := W.dk
    exact ⟨m, t, m0, m1, k _ _ q⟩
  · obtain ⟨ns, z, q⟩ := W.ls
    exact ⟨ns, z, k _ _ q⟩
end L2.Hx

/-! k28: its defs by their places. -/
namespace L2.Hx
open PySem PySem.Spec PyProof.Rows
abbrev pw : Program := PySem.Challenge.pw_heldapart_k28_faults_and_limits
def top (i : Nat) : Stmt := pw.main.body.getD i (.Pass ⟨0, 0, 0, 0⟩)
abbrev s_NoFunction___init__ : Stmt := inClass (top 2) 0
theorem sc_NoFunction___init__ : FnScope ["self", "name"] ["self", "name"] (defScope s_NoFunction___init__) := ⟨rfl, rfl, rfl, by decide +kernel, rfl, by decide +kernel, by decide +kernel⟩
abbrev s_looks_hold : Stmt := top 4
theorem sc_looks_hold : FnScope ["looks", "values", "word", "left", "right"] ["looks", "values"] (defScope s_looks_hold) := ⟨rfl, rfl, rfl, by decide +kernel, rfl, by decide +kernel, by decide +kernel⟩
abbrev s_run : Stmt := top 6
theorem sc_run : FnScope ["program", "name", "args", "heap", "choices", "limit", "functions", "function"] ["program", "name", "args", "heap", "choices", "limit"] (defScope s_run) := ⟨rfl, rfl, rfl, by decide +kernel, rfl, by decide +kernel, by decide +kernel⟩
abbrev s_outcome : Stmt := top 7
theorem sc_outcome : FnScope ["functions", "first", "ground", "frames", "frame", "caller", "way", "statement", "_", "goal", "callee", "args", "term"] ["functions", "first", "ground"] (defScope s_outcome) := ⟨rfl, rfl, rfl, by decide +kernel, rfl, by decide +kernel, by decide +kernel⟩
abbrev s_Frame___init__ : Stmt := inClass (top 8) 0
theorem sc_Frame___init__ : FnScope ["self", "function", "args", "goal", "name", "params", "_", "wheres", "body"] ["self", "function", "args", "goal"] (defScope s_Frame___init__) := ⟨rfl, rfl, rfl, by decide +kernel, rfl, by decide +kernel, by decide +kernel⟩
abbrev s_Frame_begin : Stmt := inClass (top 8) 1
theorem sc_Frame_begin : FnScope ["self", "statements", "above", "rows", "place", "statement"] ["self", "statements", "above"] (defScope s_Frame_begin) := ⟨rfl, rfl, rfl, by decide +kernel, rfl, by decide +kernel, by decide +kernel⟩
abbrev s_Frame_begin_inner : Stmt := inClass (top 8) 2
theorem sc_Frame_begin_inner : FnScope ["self", "way", "statement", "holding", "side"] ["self", "way", "statement", "holding"] (defScope s_Frame_begin_inner) := ⟨rfl, rfl, rfl, by decide +kernel, rfl, by decide +kernel, by decide +kernel⟩
abbrev s_first_worths : Stmt := top 9
theorem sc_first_worths : FnScope ["params", "wheres", "args", "worths", "name", "value"] ["params", "wheres", "args"] (defScope s_first_worths) := ⟨rfl, rfl, rfl, by decide +kernel, rfl, by decide +kernel, by decide +kernel⟩
abbrev s_test_holds : Stmt := top 10
theorem sc_test_holds : FnScope ["test", "worths", "ground"] ["test", "worths", "ground"] (defScope s_test_holds) := ⟨rfl, rfl, rfl, by decide +kernel, rfl, by decide +kernel, by decide +kernel⟩
abbrev s_do_plain : Stmt := top 11
theorem sc_do_plain : FnScope ["statement", "worths", "ground", "word", "at"] ["statement", "worths", "ground"] (defScope s_do_plain) := ⟨rfl, rfl, rfl, by decide +kernel, rfl, by decide +kernel, by decide +kernel⟩
abbrev s_Ground___init__ : Stmt := inClass (top 12) 0
theorem sc_Ground___init__ : FnScope ["self", "heap", "choices", "limit", "address", "_"] ["self", "heap", "choices", "limit"] (defScope s_Ground___init__) := ⟨rfl, rfl, rfl, by decide +kernel, rfl, by decide +kernel, by decide +kernel⟩
abbrev s_Ground_heap_now : Stmt := inClass (top 12) 1
theorem sc_Ground_heap_now : FnScope ["self", "address"] ["self"] (defScope s_Ground_heap_now) := ⟨rfl, rfl, rfl, by decide +kernel, rfl, by decide +kernel, by decide +kernel⟩
abbrev s_Ground_count_step : Stmt := inClass (top 12) 2
theorem sc_Ground_count_step : FnScope ["self"] ["self"] (defScope s_Ground_count_step) := ⟨rfl, rfl, rfl, by decide +kernel, rfl, by decide +kernel, by decide +kernel⟩
abbrev s_Ground_choose : Stmt := inClass (top 12) 3
theorem sc_Ground_choose : FnScope ["self"] ["self"] (defScope s_Ground_choose) := ⟨rfl, rfl, rfl, by decide +kernel, rfl, by decide +kernel, by decide +kernel⟩
abbrev s_Ground_make : Stmt := inClass (top 12) 4
theorem sc_Ground_make : FnScope ["self", "value", "choice", "below", "address"] ["self", "value"] (defScope s_Ground_make) := ⟨rfl, rfl, rfl, by decide +kernel, rfl, by decide +kernel, by decide +kernel⟩
abbrev s_Ground_held_below : Stmt := inClass (top 12) 5
theorem sc_Ground_held_below : FnScope ["self", "choice", "low", "high", "middle"] ["self", "choice"] (defScope s_Ground_held_below) := ⟨rfl, rfl, rfl, by decide +kernel, rfl, by decide +kernel, by decide +kernel⟩
abbrev s_Ground_drop : Stmt := inClass (top 12) 6
theorem sc_Ground_drop : FnScope ["self", "address"] ["self", "address"] (defScope s_Ground_drop) := ⟨rfl, rfl, rfl, by decide +kernel, rfl, by decide +kernel, by decide +kernel⟩
abbrev s_l_stock : Stmt := top 14
theorem sc_l_stock : FnScope ["script", "flat", "cell"] ["script"] (defScope s_l_stock) := ⟨rfl, rfl, rfl, by decide +kernel, rfl, by decide +kernel, by decide +kernel⟩
abbrev s_l_draw : Stmt := top 15
theorem sc_l_draw : FnScope ["stock", "size", "great", "turn", "cell", "blend"] ["stock", "size"] (defScope s_l_draw) := ⟨rfl, rfl, rfl, by decide +kernel, rfl, by decide +kernel, by decide +kernel⟩
abbrev s_l_pick : Stmt := top 16
theorem sc_l_pick : FnScope ["stock", "row"] ["stock", "row"] (defScope s_l_pick) := ⟨rfl, rfl, rfl, by decide +kernel, rfl, by decide +kernel, by decide +kernel⟩
abbrev s_l_shuffled : Stmt := top 17
theorem sc_l_shuffled : FnScope ["stock", "row", "rest", "made", "turn"] ["stock", "row"] (defScope s_l_shuffled) := ⟨rfl, rfl, rfl, by decide +kernel, rfl, by decide +kernel, by decide +kernel⟩
abbrev s_l_plain : Stmt := top 18
theorem sc_l_plain : FnScope ["name", "params", "wheres", "body"] ["name", "params", "wheres", "body"] (defScope s_l_plain) := ⟨rfl, rfl, rfl, by decide +kernel, rfl, by decide +kernel, by decide +kernel⟩
abbrev s_l_wrong : Stmt := top 19
theorem sc_l_wrong : FnScope ["stock", "kind", "wrong", "rows"] ["stock", "kind"] (defScope s_l_wrong) := ⟨rfl, rfl, rfl, by decide +kernel, rfl, by decide +kernel, by decide +kernel⟩
abbrev s_l_around : Stmt := top 20
theorem sc_l_around : FnScope ["stock", "rows", "way", "steps", "own", "turn", "side", "before", "first", "second"] ["stock", "rows"] (defScope s_l_around) := ⟨rfl, rfl, rfl, by decide +kernel, rfl, by decide +kernel, by decide +kernel⟩
abbrev s_l_is_told : Stmt := top 21
theorem sc_l_is_told : FnScope ["program", "way", "steps", "due", "is_named", "heap", "known", "told"] ["program", "way", "steps", "due", "is_named"] (defScope s_l_is_told) := ⟨rfl, rfl, rfl, by decide +kernel, rfl, by decide +kernel, by decide +kernel⟩
abbrev s_l_is_refused : Stmt := top 22
theorem sc_l_is_refused : FnScope ["program", "name", "error"] ["program", "name"] (defScope s_l_is_refused) := ⟨rfl, rfl, rfl, by decide +kernel, rfl, by decide +kernel, by decide +kernel⟩
abbrev s_law : Stmt := top 23
theorem sc_law : FnScope ["script", "stock", "program", "kind", "rows", "due", "own", "way", "steps", "bad", "body", "mid", "far", "go", "told", "name"] ["script"] (defScope s_law) := ⟨rfl, rfl, rfl, by decide +kernel, rfl, by decide +kernel, by decide +kernel⟩
structure Txt (K : PySem.W.Frag) (mg : Str → Option Value) : Prop where
  b_ValueError : mg "ValueError" = none
  b_dict : mg "dict" = none
  b_enumerate : mg "enumerate" = none
  b_int : mg "int" = none
  b_isinstance : mg "isinstance" = none
  b_len : mg "len" = none
  b_list : mg "list" = none
  b_range : mg "range" = none
  b_repr : mg "repr" = none
  b_sum : mg "sum" = none
  b_tuple : mg "tuple" = none
  b_zip : mg "zip" = none
  x_NoFunction : ∃ C CH f fd, OwnFld K mg "NoFunction" "name" C ∧ mg "HeldError" = some (.ref CH) ∧ PySem.W.kitOne K (.ref C) (.ref CH) = some true ∧ SrcE K C "NoFunction.__init__" s_NoFunction___init__ ["self", "name"] f fd
  k_Frame : ∃ C, ClsT K mg "Frame" ["name", "goal", "worths", "todo"] C ∧ (∃ f fd, SrcI K C "Frame.__init__" s_Frame___init__ ["self", "function", "args", "goal"] f fd) ∧ (∃ f fd, SrcM K C "begin" "Frame.begin" s_Frame_begin ["self", "statements", "above"] f fd) ∧ (∃ f fd, SrcM K C "begin_inner" "Frame.begin_inner" s_Frame_begin_inner ["self", "way", "statement", "holding"] f fd)
  k_Ground : ∃ C, ClsT K mg "Ground" ["cells", "held", "choices", "chosen", "limit", "steps"] C ∧ (∃ f fd, SrcI K C "Ground.__init__" s_Ground___init__ ["self", "heap", "choices", "limit"] f fd) ∧ (∃ f fd, SrcM K C "heap_now" "Ground.heap_now" s_Ground_heap_now ["self"] f fd) ∧ (∃ f fd, SrcM K C "count_step" "Ground.count_step" s_Ground_count_step ["self"] f fd) ∧ (∃ f fd, SrcM K C "choose" "Ground.choose" s_Ground_choose ["self"] f fd) ∧ (∃ f fd, SrcM K C "make" "Ground.make" s_Ground_make ["self", "value"] f fd) ∧ (∃ f fd, SrcM K C "held_below" "Ground.held_below" s_Ground_held_below ["self", "choice"] f fd) ∧ (∃ f fd, SrcM K C "drop" "Ground.drop" s_Ground_drop ["self", "address"] f fd)
  d_looks_hold : ∃ f fd, Src K mg "looks_hold" s_looks_hold ["looks", "values"] f fd
  d_run : ∃ f fd, Src K mg "run" s_run ["program", "name", "args", "heap", "choices", "limit"] f fd
  d_outcome : ∃ f fd, Src K mg "outcome" s_outcome ["functions", "first", "ground"] f fd
  d_first_worths : ∃ f fd, Src K mg "first_worths" s_first_worths ["params", "wheres", "args"] f fd
  d_test_holds : ∃ f fd, Src K mg "test_holds" s_test_holds ["test", "worths", "ground"] f fd
  d_do_plain : ∃ f fd, Src K mg "do_plain" s_do_plain ["statement", "worths", "ground"] f fd
  d_l_stock : ∃ f fd, Src K mg "_law_stock" s_l_stock ["script"] f fd
  d_l_draw : ∃ f fd, Src K mg "_law_draw" s_l_draw ["stock", "size"] f fd
  d_l_pick : ∃ f fd, Src K mg "_law_pick" s_l_pick ["stock", "row"] f fd
  d_l_shuffled : ∃ f fd, Src K mg "_law_shuffled" s_l_shuffled ["stock", "row"] f fd
  d_l_plain : ∃ f fd, Src K mg "_law_plain" s_l_plain ["name", "params", "wheres", "body"] f fd
  d_l_wrong : ∃ f fd, Src K mg "_law_wrong" s_l_wrong ["stock", "kind"] f fd
  d_l_around : ∃ f fd, Src K mg "_law_around" s_l_around ["stock", "rows"] f fd
  d_l_is_told : ∃ f fd, Src K mg "_law_is_told" s_l_is_told ["program", "way", "steps", "due", "is_named"] f fd
  d_l_is_refused : ∃ f fd, Src K mg "_law_is_refused" s_l_is_refused ["program", "name"] f fd
  d_law : ∃ f fd, Src K mg "law" s_law ["script"] f fd
section
variable {X : Cx}
theorem pe_cI {x : Str} {i : Int} {pos : Pos} (h : ∃ t, X.mg x = some (.int i t)) (hg : Gl X x := by rfl) (hd : (x == ("__debug__" : Str)) = false := by decide) : PE X (.Name x pos) (tC (.int i)) := let ⟨t, h⟩ := h; pe_glob hg h ⟨t, rfl⟩ hd
theorem pe_cS {x y : Str} {pos : Pos} (h : ∃ t, X.mg x = some (.str y t)) (hg : Gl X x := by rfl) (hd : (x == ("__debug__" : Str)) = false := by decide) : PE X (.Name x pos) (tC (.str y)) := let ⟨t, h⟩ := h; pe_glob hg h ⟨t, rfl⟩ hd
theorem pe_cR {x : Str} {a : Addr} {pos : Pos} (h : X.mg x = some (.ref a)) (hg : Gl X x := by rfl) (hd : (x == ("__debug__" : Str)) = false := by decide) : PE X (.Name x pos) (tC (.ref a)) := pe_glob hg h rfl hd
theorem pe_bT {x : Str} {n : String} {pos : Pos} (h : X.mg x = none) (hv : bootBuiltins x = some (.type n)) (hg : Gl X x := by rfl) (hn : x ≠ "__name__" := by decide) (hd : (x == ("__debug__" : Str)) = false := by decide) : PE X (.Name x pos) (tC (.ty n)) := pe_bltn hg h hv rfl hn hd
end
end L2.Hx

/-! The stock: a draw. -/
namespace L2.Hx
open PySem PySem.Spec PyProof.Rows
theorem dp_ints {K : PySem.W.Frag} {H : Hp} : ∀ ns : List Int, DpAll K H (ns.map V.int) (ns.map PyData.int)
  | [] => .nil
  | n :: ns => .cons (.int n) (dp_ints ns)
theorem shaped_ints (ns : List Int) : SeqAt.shaped (.list (ns.map PyData.int)) = true := by
  have h1 : ∀ ns : List Int, PyData.canLayAll0 (ns.map PyData.int) = true := fun ns => by
    induction ns with
    | nil => rfl
    | cons n ns ih => simpa [PyData.canLayAll0, PyData.canLay0] using ih
  have h2 : ∀ ns : List Int, PyData.depthAll (ns.map PyData.int) ≤ 1 := fun ns => by
    induction ns with
    | nil => simp [PyData.depthAll]
    | cons n ns ih =>
      simp only [List.map_cons, PyData.depthAll, PyData.depth]
      omega
  have a := h1 ns
  have b := h2 ns
  unfold SeqAt.shaped
  rw [Bool.and_eq_true]
  refine ⟨by simpa [PyData.canLay0] using a, decide_eq_true ?_⟩
  simp only [PyData.depth]
  omega
theorem eqv_nil (ns : List Int) : PyData.eqv (.list (ns.map PyData.int)) (.list []) = decide (ns = []) := by
  cases ns <;> simp [PyData.eqv, PyData.eqvAll]
theorem Wd.gset {p l : Addr} {G H : Hp} (W : Wd p l G H) (ns : List Int) (hz : ns.length ≤ 63) : Ext p l G H G (upd H l (.lst (ns.map V.int))) := by
  have ne := W.ne
  refine ⟨⟨fun b u q => ?_, W.gp, W.gl, ?_, ⟨ns, hz, upd_same⟩⟩, Same.refl G, fun b u _ n2 q => by rw [upd_ne n2]; exact q, fun _ _ _ g => g⟩
  · rw [upd_ne (ne_of_none q W.gl)]
    exact W.same b u q
  · obtain ⟨m, t, m0, m1, e⟩ := W.dk
    exact ⟨m, t, m0, m1, by rw [upd_ne ne]; exact e⟩
theorem Wd.dset {p l : Addr} {G H : Hp} (W : Wd p l G H) {m : DeckM} {t : Int} (m0 : m.In G) (m1 : 0 ≤ t) : Ext p l G H G (upd H p (.lst (deckL l m t))) := by
  have ne := W.ne
  refine ⟨⟨fun b u q => ?_, W.gp, W.gl, ⟨m, t, m0, m1, upd_same⟩, ?_⟩, Same.refl G, fun b u n1 _ q => by rw [upd_ne n1]; exact q, fun _ _ _ g => g⟩
  · rw [upd_ne (ne_of_none q W.gp)]
    exact W.same b u q
  · obtain ⟨ns, z, e⟩ := W.ls
    exact ⟨ns, z, by rw [upd_ne ne.symm]; exact e⟩
theorem deck_set3 (l : Addr) (m : DeckM) (t u : Int) : (deckL l m t).set 3 (.int u) = deckL l m u := rfl
theorem atI_zero (x : V) (xs : List V) : atI (x :: xs) 0 = some x := by
  have h : (0 : Int) < ((x :: xs).length : Int) := by rw [List.length_cons]; omega
  unfold atI ixN
  rw [if_pos (Int.le_refl 0), if_pos h]
  rfl
theorem atI_nat2 {xs : List V} {i : Int} (h0 : 0 ≤ i) (h1 : i < xs.length) : ∃ x, atI xs i = some x ∧ x ∈ xs := by
  have hi : i.toNat < xs.length := by omega
  refine ⟨xs[i.toNat], ?_, List.getElem_mem hi⟩
  unfold atI ixN
  rw [if_pos h0, if_pos h1]
  show xs[i.toNat]? = _
  rw [List.getElem?_eq_getElem hi]
def spDraw : Sp := fun vs H Q _ => ∃ (p l : Addr) (G : Hp) (many : Int), vs = [.ref p, .int many] ∧ 1 ≤ many ∧ many < 1000000 ∧ Wd p l G H ∧ ∀ (r : Int) (H' : Hp), 0 ≤ r → r < many → Ext p l G H G H' → Q (.int r) H'
section
variable {P : Program} {w : World} {K : PySem.W.Frag} {mg : Str → Option Value} {base : Heap}
theorem D_draw (T : Txt K mg) : Df P w K mg base 1 "_law_draw" ["stock", "size"] spDraw := by
  obtain ⟨f, fd, S⟩ := T.d_l_draw
  refine Df.mk' (k := 0) S sc_l_draw (fun vs H Q E h => ?_) (fun cdv A outer s H vs Q E hgd hr h => ?_)
  · obtain ⟨p, l, G, many, rfl, _⟩ := h
    rfl
  · obtain ⟨p, l, G, many, rfl, h1, h2, W, k⟩ := h
    have hu := hu_of hr
    have big : (2000 : Nat) ≤ sizeLine := by decide
    refine ⟨_, (pss_cons (ps_if (pt_cmpR (op_neD hr.units) (pe_ix ix_list (pv 0) pe_int (fun _ _ => rfl)) (pe_lst pa_nil) (nomark _)) (pss_cons (ps_set (i := 2) sc_l_draw.nd rfl (.inl rfl) (pe_bm0 PySem.F.plainAttrs_list PySem.F.slot_list_pop PySem.F.type_list_pop mt_pop (pe_ix ix_list (pv 0) pe_int (fun _ _ => rfl))))
      (pss_cons (ps_if (pt_cmpR op_ge (pv 2) (pv 1) (nomark _)) (pss_one (ps_expr (pe_bm PySem.F.plainAttrs_list PySem.F.slot_list_append PySem.F.type_list_append mt_append (pe_ix ix_list (pv 0) pe_int (fun _ _ => rfl)) (pa_cons (pe_op op_fdivN (pv 2) (pv 1)) pa_nil)))) pss_nil)
      (pss_one (ps_ret (pe_op op_mod (pe_callTy call_int1 (by rfl) T.b_int (by decide +kernel) (pa_cons (pv 2) pa_nil)) (pv 1)))))) pss_nil)
      (pss_cons (ps_asg (pe_op op_add (pe_ix ix_list (pv 0) pe_int (fun _ _ => rfl)) pe_int) (pg_sub (pv 0) pe_int set_list))
      (pss_cons (ps_set (i := 3) sc_l_draw.nd rfl (.inl rfl) (pe_ix ix_list (pv 0) pe_int (fun _ _ => rfl)))
      (pss_cons (ps_set (i := 4) sc_l_draw.nd rfl (.inl rfl) (pe_op op_mod (pe_callTy call_int1 (by rfl) T.b_int (by decide +kernel) (pa_cons (pe_ix ix_list (pe_ix ix_list (pv 0) pe_int (fun _ _ => rfl)) (pe_op op_mod (pe_callTy call_int1 (by rfl) T.b_int (by decide +kernel) (pa_cons (pv 3) pa_nil)) (pe_callB call_len_seq (by rfl) T.b_len (by decide +kernel) (pa_cons (pe_ix ix_list (pv 0) pe_int (fun _ _ => rfl)) pa_nil))) (fun _ _ => rfl)) pa_nil)) pe_int))
      (pss_cons (ps_set (i := 5) sc_l_draw.nd rfl (.inl rfl) (pe_op op_mod (pe_callTy call_int1 (by rfl) T.b_int (by decide +kernel) (pa_cons (pe_op op_add (pe_op op_add (pe_op op_mul (pv 4) pe_int) (pe_op op_mul (pe_op op_mod (pe_callTy call_int1 (by rfl) T.b_int (by decide +kernel) (pa_cons (pe_ix ix_list (pv 0) pe_int (fun _ _ => rfl)) pa_nil)) pe_int) pe_int)) (pe_op op_mul (pv 3) pe_int)) pa_nil)) pe_int))
      (pss_cons (ps_set (i := 5) sc_l_draw.nd rfl (.inl rfl) (pe_op op_mod (pe_callTy call_int1 (by rfl) T.b_int (by decide +kernel) (pa_cons (pe_op op_add (pe_op op_add (pe_op op_mul (pv 5) (pv 5)) (pe_op op_mul (pv 3) pe_int)) (pv 4)) pa_nil)) pe_int))
      (pss_one (ps_ret (pe_op op_mod (pe_op op_fdiv (pe_op op_mod (pe_callTy call_int1 (by rfl) T.b_int (by decide +kernel) (pa_cons (pe_op op_add (pe_op op_mul (pv 5) pe_int) (pe_op op_mul (pv 3) pe_int)) pa_nil)) pe_int) pe_int) (pv 1)))))))))), ?_⟩
    obtain ⟨m, t, m0, m1, hd⟩ := W.dk
    obtain ⟨ns, hz, hl⟩ := W.ls
    refine ⟨_, rfl, p, _, 0, _, rfl, rfl, SqL.of hd, rfl, Nat.zero_le _, fun q hq => ?_⟩
    have E1 := W.tmp (o := .lst []) hq
    have hq_p := W.np hq
    have hq_l := W.nl hq
    have hd1 : upd H q (.lst []) p = some (.lst (deckL l m t)) := by rw [upd_ne hq_p.symm]; exact hd
    have hl1 : upd H q (.lst []) l = some (.lst (ns.map V.int)) := by rw [upd_ne hq_l.symm]; exact hl
    refine ⟨.list (ns.map PyData.int), .list [], .lst (SqL.of hl1) (dp_ints ns), .lst (SqL.of upd_same) .nil, shaped_ints ns, rfl, _, rfl, ?_⟩
    rw [eqv_nil]
    refine ite2 (fun hc2 => ?_) (fun hc2 => ?_)
    · -- the great ones
      have hne : ns ≠ [] := by simpa using hc2
      obtain ⟨ns, y, rfl⟩ : ∃ r x, ns = r ++ [x] := ⟨ns.dropLast, ns.getLast hne, (List.dropLast_concat_getLast _).symm⟩
      have lz : ns.length + 1 ≤ 63 := by rw [List.length_append, List.length_singleton] at hz; exact hz
      have em : (ns ++ [y]).map V.int = ns.map V.int ++ [V.int y] := by rw [List.map_append]; rfl
      refine ⟨_, rfl, p, _, 0, _, rfl, rfl, SqL.of hd1, rfl, .inl ⟨rfl, _, SqL.of hl1⟩, ?_⟩
      refine ⟨l, _, V.int y, rfl, rfl, hl1, by rw [em]; simp, ?_⟩
      rw [em, List.dropLast_concat]
      have E2 := E1.trans W (E1.w.gset ns (by omega))
      generalize hH2 : upd (upd H q (.lst [])) l (.lst (ns.map V.int)) = H2 at E2 ⊢
      have hl2 : H2 l = some (.lst (ns.map V.int)) := by rw [← hH2, upd_same]
      have hd2 : H2 p = some (.lst (deckL l m t)) := by rw [← hH2, upd_ne W.ne]; exact hd1
      dsimp only [gName, List.set]
      refine ⟨_, rfl, _, rfl, _, _, rfl, rfl, _, rfl, ite2 (fun hc3 => ?_) (fun hc3 => ?_)⟩
      · refine ⟨_, rfl, p, _, 0, _, rfl, rfl, SqL.of hd2, rfl, .inl ⟨rfl, _, SqL.of hl2⟩, _, rfl, _, rfl, _, _, rfl, rfl, ⟨by omega, by omega⟩, ?_⟩
        refine ⟨l, _, _, rfl, rfl, hl2, by rw [List.length_map]; omega, ?_⟩
        have E3 := E2.trans W (E2.w.gset (ns ++ [y.fdiv many]) (by rw [List.length_append, List.length_singleton]; exact lz))
        rw [show ns.map V.int ++ [V.int (y.fdiv many)] = (ns ++ [y.fdiv many]).map V.int by rw [List.map_append]; rfl]
        refine ⟨_, rfl, .inl ⟨_, rfl, _, rfl, _, _, rfl, rfl, by show (0 : Int) < many; omega, ?_⟩⟩
        exact k _ _ (Int.emod_nonneg _ (by omega)) (Int.emod_lt_of_pos _ (by omega)) E3
      · refine ⟨_, rfl, .inl ⟨_, rfl, _, rfl, _, _, rfl, rfl, by show (0 : Int) < many; omega, ?_⟩⟩
        exact k _ _ (Int.emod_nonneg _ (by omega)) (Int.emod_lt_of_pos _ (by omega)) E2
    · -- the mixed ones
      refine ⟨_, rfl, p, _, 3, V.int t, rfl, rfl, SqL.of hd1, rfl, _, _, rfl, rfl, _, rfl, p, _, 3, 3, rfl, rfl, hd1, rfl, ?_⟩
      rw [deck_set3]
      have E2 := E1.trans W (E1.w.dset (t := t + 1) m0 (by omega))
      generalize hH2 : upd (upd H q (.lst [])) p (.lst (deckL l m (t + 1))) = H2 at E2 ⊢
      have hd2 : H2 p = some (.lst (deckL l m (t + 1))) := by rw [← hH2, upd_same]
      have ha2 : H2 m.at_ = some (.lst (m.all.map V.int)) := E2.w.same _ _ m0.has
      have pos := m0.pos
      have few := m0.few
      dsimp only [gName, List.set]
      refine ⟨_, rfl, p, _, 3, V.int (t + 1), rfl, rfl, SqL.of hd2, rfl, ?_⟩
      dsimp only [gName, List.set]
      have lpos : (0 : Int) < (m.all.length : Int) := by omega
      have i0 := Int.emod_nonneg (t + 1) (show (m.all.length : Int) ≠ 0 by omega)
      have i1 := Int.emod_lt_of_pos (t + 1) lpos
      obtain ⟨x, hx, mx⟩ := atI_nat2 (xs := m.all.map V.int) i0 (by rw [List.length_map]; exact i1)
      obtain ⟨c0, _, rfl⟩ := List.mem_map.mp mx
      refine ⟨_, rfl, p, _, 1, V.ref m.at_, rfl, rfl, SqL.of hd2, rfl, _, rfl, .inl ⟨_, rfl, _, rfl, p, _, 1, V.ref m.at_, rfl, rfl, SqL.of hd2, rfl, m.at_, m.all.map V.int, rfl, .inl (SqL.of ha2), _, _, rfl, rfl, by show (0 : Int) < ((m.all.map V.int).length : Int); rw [List.length_map]; exact lpos, ?_⟩⟩
      rw [List.length_map]
      refine ⟨m.at_, m.all.map V.int, _, V.int c0, rfl, rfl, SqL.of ha2, hx, .inl ⟨_, rfl, _, _, rfl, rfl, by show (0 : Int) < 1000000007; decide, ?_⟩⟩
      generalize hc : c0 % 1000000007 = c
      have bc : 0 ≤ c ∧ c < 1000000007 := by omega
      dsimp only [gName, List.set]
      refine ⟨_, rfl, _, _, rfl, rfl, .inr ⟨by decide, by decide⟩, _, rfl, p, _, 2, V.int m.sum, rfl, rfl, SqL.of hd2, rfl, .inl ⟨_, rfl, _, _, rfl, rfl, by show (0 : Int) < 998244353; decide, ?_⟩⟩
      generalize hs : m.sum % 998244353 = sm
      have bs : 0 ≤ sm ∧ sm < 998244353 := by omega
      refine ⟨_, _, rfl, rfl, .inr ⟨by decide, by decide⟩, _, _, rfl, rfl, _, rfl, _, _, rfl, rfl, .inr ⟨by decide, by decide⟩, _, _, rfl, rfl, .inl ⟨_, rfl, _, _, rfl, rfl, by show (0 : Int) < 4294967291; decide, ?_⟩⟩
      generalize hb1 : (c * 48271 + sm * 69621 + (t + 1) * 2654435761) % 4294967291 = b1
      have bb1 : 0 ≤ b1 ∧ b1 < 4294967291 := by omega
      dsimp only [gName, List.set]
      refine ⟨_, rfl, _, rfl, _, _, rfl, rfl, .inl ⟨by omega, by omega⟩, _, rfl, _, _, rfl, rfl, .inr ⟨by decide, by decide⟩, _, _, rfl, rfl, _, rfl, _, _, rfl, rfl, .inl ⟨_, rfl, _, _, rfl, rfl, by show (0 : Int) < 4294967279; decide, ?_⟩⟩
      generalize hb2 : (b1 * b1 + (t + 1) * 362437 + c) % 4294967279 = b2
      dsimp only [gName, List.set]
      refine ⟨_, rfl, _, _, rfl, rfl, .inr ⟨by decide, by decide⟩, _, rfl, _, _, rfl, rfl, .inr ⟨by decide, by decide⟩, _, _, rfl, rfl, .inl ⟨_, rfl, _, _, rfl, rfl, by show (0 : Int) < 4294967231; decide, _, _, rfl, rfl, ⟨by decide, by decide⟩, _, rfl, _, _, rfl, rfl, by show (0 : Int) < many; omega, ?_⟩⟩
      exact k _ _ (Int.emod_nonneg _ (by omega)) (Int.emod_lt_of_pos _ (by omega)) E2
end
end L2.Hx

/-! What the law's own defs have in common. -/
namespace L2.Hx
open PySem PySem.Spec PyProof.Rows
section
variable {P : Program} {w : World} {K : PySem.W.Frag} {mg : Str → Option Value} {base : Heap} {p l : Addr} {σ : St} {G : Hp}
theorem sameAdd {H : Hp} {a : Addr} {o : HO} (h : H a = none) : Same H (upd H a o) := fun b u q => by
  rw [upd_ne (ne_of_none q h)]
  exact q
theorem sameOut {H0 H : Hp} {a : Addr} {o : HO} (s : Same H0 H) (h : H0 a = none) : Same H0 (upd H a o) := fun b u q => by
  rw [upd_ne (ne_of_none q h)]
  exact s b u q
theorem Da.tupI {K : PySem.W.Frag} {G : Hp} {v : V} {ds : List PyData} (h : Da K G v (.tuple ds)) : ∃ a xs, v = .ref a ∧ SqT K G a xs ∧ DaAll K G xs ds := by
  cases h with
  | tup h t => exact ⟨_, _, rfl, h, t⟩
theorem Da.strI {K : PySem.W.Frag} {G : Hp} {v : V} {z : Str} (h : Da K G v (.str z)) : v = .str z := by
  cases h
  rfl
theorem ite_of {c A B : Prop} {x : Bool} [Decidable c] (e : x = decide c) (h1 : c → A) (h2 : ¬ c → B) : if x = true then A else B := by
  subst e
  exact ite2 (fun h => h1 (of_decide_eq_true h)) fun h => h2 (of_decide_eq_false (Bool.eq_false_iff.mpr h))
theorem iteNot {c : Bool} {A B : Prop} (h1 : c = false → A) (h2 : c = true → B) : if (!c) = true then A else B := by
  cases c
  · exact iteT (h1 rfl)
  · exact iteF (h2 rfl)
theorem iteB {c : Bool} {A B : Prop} (h1 : c = true → A) (h2 : c = false → B) : if c = true then A else B := by
  cases c
  · exact iteF (h2 rfl)
  · exact iteT (h1 rfl)
theorem behindI {N I : Hp → Prop} {A : Prop} (main : (∀ H2, I H2 → N H2) → A) (fin : ∀ H2, I H2 → N H2) : A := main fin
theorem behindP {N I : V → Hp → Prop} {A : Prop} (main : (∀ u H2, I u H2 → N u H2) → A) (fin : ∀ u H2, I u H2 → N u H2) : A := main fin
theorem behind {N : Hp → Prop} {p l : Addr} {G H : Hp} {A : Prop} (main : (∀ H2 G2, Ext p l G H G2 H2 → N H2) → A) (fin : ∀ H2 G2, Ext p l G H G2 H2 → N H2) : A := main fin
theorem ite_dec {c A B : Prop} [Decidable c] (hc : c) (h : A) : if decide c = true then A else B := by
  rw [if_pos (decide_eq_true hc)]
  exact h
theorem if_no {c : Bool} {A B : Prop} (h : c = false) (b : B) : if c = true then A else B := by
  rw [h]
  exact b
theorem Wd.still {p l : Addr} {G H H' : Hp} (W : Wd p l G H) (s : Same H H') : Ext p l G H G H' := by
  refine ⟨⟨W.same.trans s, W.gp, W.gl, ?_, ?_⟩, Same.refl G, fun b o _ _ q => s b o q, fun _ _ _ g => g⟩
  · obtain ⟨m, t, m0, m1, e⟩ := W.dk
    exact ⟨m, t, m0, m1, s _ _ e⟩
  · obtain ⟨ns, z, e⟩ := W.ls
    exact ⟨ns, z, s _ _ e⟩
theorem Okd.fit {k n : Nat} {d : PyData} (h : Okd k n d) (hn : n ≤ sizeLine) : Fit d := ⟨h.ok, Nat.le_trans h.sz hn⟩
theorem cut_ints (ns : List Int) (lo hi : Option Int) : ∃ ms : List Int, cutV (ns.map V.int) lo hi = ms.map V.int ∧ ms.length ≤ ns.length := by
  refine ⟨(ns.drop (HT.sIx (ns.map V.int).length 0 lo)).take (HT.sIx (ns.map V.int).length (ns.map V.int).length hi - HT.sIx (ns.map V.int).length 0 lo), ?_, ?_⟩
  · unfold cutV
    rw [List.map_take, List.map_drop]
  · rw [List.length_take, List.length_drop]
    omega
def LsP (ψ : PyData → Prop) (d : PyData) : Prop := ∃ ds, d = .list ds ∧ 0 < ds.length ∧ ds.length < 1000000 ∧ ∀ x ∈ ds, ψ x
def spPick : Sp := fun vs H Q _ => ∃ (p l : Addr) (G : Hp) (a : Addr) (xs : List V), vs = [.ref p, .ref a] ∧ Wd p l G H ∧ H a = some (.lst xs) ∧ a ≠ p ∧ a ≠ l ∧ 0 < xs.length ∧ xs.length < 1000000 ∧ ∀ x H', x ∈ xs → Ext p l G H G H' → Q x H'
def spDrawn (K : PySem.W.Frag) (ψ φ : PyData → Prop) : Sp := fun vs H Q _ => ∃ (p l : Addr) (G : Hp) (v : V) (d : PyData), vs = [.ref p, v] ∧ Wd p l G H ∧ Da K G v d ∧ ψ d ∧ ∀ u e G2 H2, Ext p l G H G2 H2 → Da K G2 u e → φ e → Q u H2
theorem D_pick (T : Txt K mg) : Df P w K mg base 2 "_law_pick" ["stock", "row"] spPick := by
  have D_l_draw := D_draw (P := P) (w := w) (base := base) T
  obtain ⟨f, fd, S⟩ := T.d_l_pick
  refine Df.mk' (k := 1) S sc_l_pick (fun vs H Q E h => ?_) (fun cdv A outer s H vs Q E hgd hr h => ?_)
  · obtain ⟨p, l, G, a, xs, rfl, _⟩ := h
    rfl
  · obtain ⟨p, l, G, a, xs, rfl, W, ha, n1, n2, h0, h1, k⟩ := h
    refine ⟨_, (pss_one (ps_ret (pe_ix ix_list (pv 1) (pe_d D_l_draw hgd hr (pa_cons (pv 0) (pa_cons (pe_callB call_len_seq (by rfl) T.b_len (by decide +kernel) (pa_cons (pv 1) pa_nil)) pa_nil))) (fun _ _ => rfl)))), ?_⟩
    refine ⟨_, rfl, _, rfl, _, rfl, a, xs, rfl, .inl (SqL.of ha), p, l, G, _, rfl, by omega, by omega, W, fun r H1 r0 r1 e => ?_⟩
    obtain ⟨x, hx, mx⟩ := atI_nat2 r0 r1
    exact ⟨a, xs, r, x, rfl, rfl, SqL.of (e.keep _ _ n1 n2 ha), hx, k x H1 mx e⟩
theorem td_pick {p l : Addr} {σ : St} {G : Hp} {ta : TE} {ψ : PyData → Prop} {i : Nat} (h : TD K p l σ G ta (LsP ψ)) (hd : σ[i]? = some (some (.ref p))) : TD K p l σ G (tCall spPick [] E0 (tCons (tVar i) (tCons ta tNil))) ψ := fun G1 H Q W s kk =>
  ⟨_, hd, h G1 H _ W s fun v d G2 H2 e da f => by
    obtain ⟨ds, rfl, z0, z1, o⟩ := f
    cases da with
    | @lst a xs _ t1 a1 =>
      have hl := a1.length
      refine ⟨p, l, G2, a, xs, rfl, e.w, e.w.same _ _ t1, fun q => ?_, fun q => ?_, by omega, by omega, fun x H3 mx e3 => ?_⟩
      · rw [q, e.w.gp] at t1
        cases t1
      · rw [q, e.w.gl] at t1
        cases t1
      · obtain ⟨d, md, dd⟩ := a1.mem mx
        exact kk x d G2 H3 (e.trans W e3) dd (o d md)⟩
theorem td_lstP {p l : Addr} {σ : St} {G : Hp} {tr : TA} {Φ : List PyData → Prop} (h : TDs K p l σ G tr Φ) (hz : ∀ ds, Φ ds → ds.length ≤ sizeLine) : TD K p l σ G (tLst tr) (fun d => ∃ ds, d = .list ds ∧ Φ ds) := fun G1 H Q W s k =>
  h G1 H _ W s fun vs ds G2 H2 e da f => ⟨by rw [da.length]; exact hz ds f, fun a ha => k _ _ _ _ (e.trans W (e.w.put ha)) (.lst upd_same (da.mono (e.w.put (o := .lst vs) ha).sub)) ⟨ds, rfl, f⟩⟩
theorem td_mono {t : TE} {k n k2 n2 : Nat} (h : TD K p l σ G t (Okd k n)) (hk : k ≤ k2 := by decide) (hn : n ≤ n2 := by decide) : TD K p l σ G t (Okd k2 n2) := h.imp fun d f => f.mono hk hn
theorem TD.app {t : TE} {φ : PyData → Prop} (h : TD K p l σ G t φ) {H : Hp} {Q : VK} (W : Wd p l G H) (k : ∀ v d G2 H2, Ext p l G H G2 H2 → Da K G2 v d → φ d → Q v H2) : t σ H Q := h G H Q W (Same.refl G) k
theorem TDs.asgL {H : Hp} {D : Ends} {i : Nat} {tr : TA} {Φ : List PyData → Prop} (h : TDs K p l σ G tr Φ) (W : Wd p l G H) (hz : ∀ ds, Φ ds → ds.length ≤ sizeLine)
    (k : ∀ vs ds G2 H2 r, Ext p l G H G2 H2 → DaAll K G2 vs ds → Φ ds → H2 r = none → D.nx (σ.set i (some (.ref r))) (upd H2 r (.lst vs))) : tAsg (tLst tr) (gName i) D σ H :=
  h G H _ W (Same.refl G) fun vs ds G2 H2 e da f => ⟨by rw [da.length]; exact hz ds f, fun r hr => k vs ds G2 H2 r e da f hr⟩
theorem da_strs {K : PySem.W.Frag} {G : Hp} : ∀ ws : List Str, DaAll K G (ws.map V.str) (ws.map PyData.str)
  | [] => .nil
  | n :: ns => .cons (.str n) (da_strs ns)
theorem line16 : 16000000 ≤ sizeLine := by decide
end
theorem erase_perm {α : Type} : ∀ (l : List α) (i : Nat) (h : i < l.length), (l[i] :: l.eraseIdx i).Perm l
  | [], i, h => absurd h (Nat.not_lt_zero i)
  | x :: xs, 0, _ => .refl _
  | x :: xs, i + 1, h => (List.Perm.swap x (xs[i]'(Nat.lt_of_succ_lt_succ h)) (xs.eraseIdx i)).trans ((erase_perm xs i (Nat.lt_of_succ_lt_succ h)).cons x)
def IntD (B : Int) (d : PyData) : Prop := ∃ n : Int, d = .int n ∧ 0 ≤ n ∧ n ≤ B
def AllF (φ : PyData → Prop) (m : Nat) (ds : List PyData) : Prop := ds.length = m ∧ ∀ d ∈ ds, φ d
theorem vint {a b : Int} (h : V.int a = V.int b) : a = b := by
  cases h
  rfl
theorem tup_or : ∀ d : PyData, (∃ ds, d = .tuple ds) ∨ isTup d = false
  | .tuple ds => .inl ⟨ds, rfl⟩
  | .none => .inr rfl
  | .bool _ => .inr rfl
  | .int _ => .inr rfl
  | .str _ => .inr rfl
  | .list _ => .inr rfl
  | .dict _ => .inr rfl
section
variable {K : PySem.W.Frag} {p l : Addr} {σ : St} {G : Hp} {φ : PyData → Prop} {t te : TE} {tr : TA} {m : Nat} {B : Int}
theorem tds_nilF : TDs K p l σ G tNil (AllF φ 0) := fun G1 H Q W _ k => k _ _ _ _ (Ext.refl W) .nil ⟨rfl, fun d h => absurd h List.not_mem_nil⟩
theorem tds_consF (h : TD K p l σ G t φ) (hr : TDs K p l σ G tr (AllF φ m)) : TDs K p l σ G (tCons t tr) (AllF φ (m + 1)) := fun G1 H Q W s k =>
  tds_consP h hr G1 H Q W s fun vs ds G2 H2 e da f => k vs ds G2 H2 e da (by
    obtain ⟨d, r, rfl, h1, l1, h2⟩ := f
    refine ⟨by rw [List.length_cons, l1], fun x mx => ?_⟩
    rcases List.mem_cons.mp mx with rfl | mx
    · exact h1
    · exact h2 x mx)
theorem td_lstF (h : TDs K p l σ G tr (AllF φ (m + 1))) (hz : m + 1 < 1000000 := by decide) : TD K p l σ G (tLst tr) (LsP φ) := TD.imp (td_lstP h fun ds f => by
  have : 1000000 ≤ sizeLine := by decide
  rw [f.1]
  omega) fun d ⟨ds, e, l1, h1⟩ => ⟨ds, e, by omega, by omega, h1⟩
theorem td_intF {i : Int} (h0 : 0 ≤ i := by decide) (h1 : i ≤ B := by decide) : TD K p l σ G (tC (.int i)) (IntD B) := .flat (fun _ => .int i) ⟨i, rfl, h0, h1⟩
theorem td_powF {i : Int} (h : (0 : Int) ≤ 10 ^ i.toNat ∧ (10 : Int) ^ i.toNat ≤ B := by decide +kernel) (hc : CPow 10 i := by exact ⟨by decide, by decide, by decide⟩) : TD K p l σ G (tOp (rI CPow fun i j => .int (i ^ j.toNat)) (tC (.int 10)) (tC (.int i))) (IntD B) := fun G1 H Q W s kk =>
  ⟨10, i, rfl, rfl, hc, kk _ _ _ _ (Ext.refl W) (.int _) ⟨_, rfl, h.1, h.2⟩⟩
theorem td_varI {j : Nat} {i : Int} (hj : σ[j]? = some (some (.int i))) (h0 : 0 ≤ i) (h1 : i ≤ B) : TD K p l σ G (tVar j) (IntD B) := td_var hj (.int i) ⟨i, rfl, h0, h1⟩
theorem td_addI {j : Nat} {i c : Int} (hj : σ[j]? = some (some (.int i))) (h0 : 0 ≤ i + c) (h1 : i + c ≤ B) : TD K p l σ G (tOp (rI0 fun i j => .int (i + j)) (tVar j) (tC (.int c))) (IntD B) := fun G1 H Q W s kk =>
  ⟨_, hj, _, _, rfl, rfl, kk _ _ _ _ (Ext.refl W) (.int _) ⟨_, rfl, h0, h1⟩⟩
theorem td_lcl {a : Addr} {xs : List V} {i j : Nat} {φ : Nat → PyData → Prop} (hi : σ[i]? = some (some (.ref a))) (hS : SqL K G a xs) (hM : xs.length < sizeLine) (he : ∀ n x, xs[n]? = some x → TD K p l ((σ.set j none).set j (some x)) G te (φ n)) :
    TD K p l σ G (tLc (iList K (tVar i)) (gName j) tYes te [j]) (fun d => ∃ ds, d = .list ds ∧ ds.length = xs.length ∧ ∀ n e, ds[n]? = some e → φ n e) := fun G1 H Q W s k =>
  ⟨_, hi, a, rfl, ⟨xs, (s.trans W.same).seq hS⟩, fun D hD => by
    have nDp := W.np hD
    have nDl := W.nl hD
    have E1 := W.tmp (o := .lst []) hD
    refine lc_list (K := K) (a := a) (xs := xs) (fun i H3 => ∃ G3 vs ds, Wd p l G3 H3 ∧ Same G1 G3 ∧ G3 D = none ∧ H3 D = some (.lst vs) ∧ DaAll K G3 vs ds ∧ ds.length = i ∧ (∀ n e, ds[n]? = some e → φ n e) ∧
        (∀ b o, b ≠ p → b ≠ l → b ≠ D → H b = some o → H3 b = some o) ∧ (∀ b o, H b = some o → G1 b = none → G3 b = none))
      ⟨G1, [], [], E1.w, Same.refl _, W.same.free hD, upd_same, .nil, rfl, fun n e m => (by cases n <;> cases m), fun b o n1 n2 n3 q => by rw [upd_ne n3]; exact q, fun b o _ g => g⟩
      (fun i H3 _ ⟨G3, vs, ds, w3, s3, _⟩ => ((s.trans s3).trans w3.same).seq hS) ?_ ?_
    · rintro n x H3 hx ⟨G3, vs, ds, w3, s3, gD, hD3, da3, l3, f3, k3, n3⟩
      have hn := (List.getElem?_eq_some_iff.mp hx).1
      refine ⟨set_none σ, ?_⟩
      show te _ _ _
      refine he n x hx G3 H3 _ w3 (s.trans s3) fun v d G4 H4 e4 da4 f4 => ?_
      have hD4 : H4 D = some (.lst vs) := e4.keep _ _ nDp nDl hD3
      have gD4 : G4 D = none := e4.new _ _ hD3 gD
      refine ⟨vs, hD4, by rw [da3.length, l3]; omega, G4, vs ++ [v], ds ++ [d], e4.w.own nDp nDl gD4, s3.trans e4.sub, gD4, upd_same, (da3.mono e4.sub).append (.cons da4 .nil),
        by rw [List.length_append, l3]; rfl, fun n2 e2 m => ?_, fun b o n1 n2 n4 q => ?_, fun b o q g => ?_⟩
      · rw [List.getElem?_append] at m
        split at m
        · exact f3 _ _ m
        · have hn2 : n2 - ds.length = 0 := by
            have := (List.getElem?_eq_some_iff.mp m).1
            rw [List.length_singleton] at this
            omega
          rw [hn2] at m
          cases m
          have : n2 = n := by omega
          rw [this]
          exact f4
      · rw [upd_ne n4]
        exact e4.keep _ _ n1 n2 (k3 b o n1 n2 n4 q)
      · have g3 := n3 b o q g
        by_cases b1 : b = p
        · subst b1
          exact e4.w.gp
        · by_cases b2 : b = l
          · subst b2
            exact e4.w.gl
          · exact e4.new b o (k3 b o b1 b2 (ne_of_none q hD) q) g3
    · rintro H3 ⟨G3, vs, ds, w3, s3, gD, hD3, da3, l3, f3, k3, n3⟩
      obtain ⟨w4, s4⟩ := w3.hold nDp nDl gD hD3
      have E2 : Ext p l G1 H (upd G3 D (.lst vs)) H3 := ⟨w4, s3.trans s4, fun b o n1 n2 q => k3 b o n1 n2 (ne_of_none q hD) q, fun b o q g => by
        rw [upd_ne (ne_of_none q hD)]
        exact n3 b o q g⟩
      exact k _ _ _ _ E2 (.lst upd_same (da3.mono s4)) ⟨ds, rfl, l3, f3⟩⟩
end
end L2.Hx

/-! The deck is made; items in a drawn order. -/
namespace L2.Hx
open PySem PySem.Spec PyProof.Rows
/-- all that is new is held -/
theorem Wd.grow {p l : Addr} {G H H' : Hp} (W : Wd p l G H) (s : Same H H') : ∃ G2, Ext p l G H G2 H' ∧ ∀ b, H b = none → G2 b = H' b := by
  have hp : ∃ o, H p = some o := by
    obtain ⟨m, t, _, _, h⟩ := W.dk
    exact ⟨_, h⟩
  have hl : ∃ o, H l = some o := by
    obtain ⟨m, _, h⟩ := W.ls
    exact ⟨_, h⟩
  refine ⟨fun b => if (H b).isNone = true then H' b else G b, ⟨⟨fun b o q => ?_, ?_, ?_, ?_, ?_⟩, fun b o q => ?_, fun b o _ _ q => s _ _ q, fun b o q g => ?_⟩, fun b q => ?_⟩
  · split at q
    · exact q
    · exact s _ _ (W.same _ _ q)
  · obtain ⟨o, e⟩ := hp
    show (if (H p).isNone = true then H' p else G p) = none
    rw [e]
    exact W.gp
  · obtain ⟨o, e⟩ := hl
    show (if (H l).isNone = true then H' l else G l) = none
    rw [e]
    exact W.gl
  · obtain ⟨m, t, a, b, h⟩ := W.dk
    exact ⟨m, t, a.mono (fun c u q => by show (if (H c).isNone = true then H' c else G c) = some u; rw [W.same _ _ q]; exact q), b, s _ _ h⟩
  · obtain ⟨m, a, h⟩ := W.ls
    exact ⟨m, a, s _ _ h⟩
  · show (if (H b).isNone = true then H' b else G b) = some o
    rw [W.same _ _ q]
    exact q
  · show (if (H b).isNone = true then H' b else G b) = none
    rw [q]
    exact g
  · show (if (H b).isNone = true then H' b else G b) = H' b
    rw [q]
    rfl
theorem perm_map_inv {α β : Type} {f : α → β} {ys zs : List β} (h : ys.Perm zs) : ∀ L : List α, zs = L.map f → ∃ M : List α, ys = M.map f ∧ M.Perm L := by
  induction h with
  | nil =>
    intro L e
    cases L with
    | nil => exact ⟨[], rfl, .refl _⟩
    | cons a L => cases e
  | cons x _ ih =>
    intro L e
    cases L with
    | nil => cases e
    | cons a L =>
      injection e with e1 e2
      obtain ⟨M, m1, m2⟩ := ih L e2
      exact ⟨a :: M, by rw [m1, e1]; rfl, m2.cons a⟩
  | swap x y l =>
    intro L e
    cases L with
    | nil => cases e
    | cons a L =>
      cases L with
      | nil => cases e
      | cons b L =>
        injection e with e1 e2
        injection e2 with e2 e3
        exact ⟨b :: a :: L, by rw [e1, e2, e3]; rfl, List.Perm.swap _ _ _⟩
  | trans _ _ ih1 ih2 =>
    intro L e
    obtain ⟨M2, e2, p2⟩ := ih2 L e
    obtain ⟨M1, e1, p1⟩ := ih1 M2 e2
    exact ⟨M1, e1, p1.trans p2⟩
def Shp (d : PyData) : Prop := d.canLay0 = true ∧ d.depth ≤ 20
theorem shp_all : ∀ {es : List PyData}, (∀ e ∈ es, Shp e) → PyData.canLayAll0 es = true ∧ PyData.depthAll es ≤ 20
  | [], _ => ⟨rfl, by simp [PyData.depthAll]⟩
  | e :: es, h => by
    obtain ⟨a, b⟩ := shp_all (es := es) fun x m => h x (List.mem_cons_of_mem _ m)
    obtain ⟨c, d⟩ := h e List.mem_cons_self
    refine ⟨by simp [PyData.canLayAll0, c, a], ?_⟩
    simp only [PyData.depthAll]
    omega
theorem shaped_list {es : List PyData} (h : ∀ e ∈ es, Shp e) : SeqAt.shaped (.list es) = true := by
  obtain ⟨a, b⟩ := shp_all h
  unfold SeqAt.shaped
  rw [Bool.and_eq_true]
  refine ⟨by simpa [PyData.canLay0] using a, decide_eq_true ?_⟩
  simp only [PyData.depth]
  omega
mutual
theorem Da.dp {K : PySem.W.Frag} {G H : Hp} (s : Same G H) : ∀ {d : PyData} {v : V}, Da K G v d → d.canLay0 = true → Dp K H v d
  | _, _, .non, _ => .non
  | _, _, .bl b, _ => .bl b
  | _, _, .int i, _ => .int i
  | _, _, .str x, _ => .str x
  | _, _, .lst h t, c => .lst (SqL.of (s _ _ h)) (DaAll.dp s t (by simpa [PyData.canLay0] using c))
  | _, _, .tup h t, c => .tup (sameT s h) (DaAll.dp s t (by simpa [PyData.canLay0] using c))
  | _, _, .dct _ _, c => by simp [PyData.canLay0] at c
theorem DaAll.dp {K : PySem.W.Frag} {G H : Hp} (s : Same G H) : ∀ {ds : List PyData} {vs : List V}, DaAll K G vs ds → PyData.canLayAll0 ds = true → DpAll K H vs ds
  | _, _, .nil, _ => .nil
  | _, _, .cons h t, c => by
    rw [PyData.canLayAll0, Bool.and_eq_true] at c
    exact .cons (Da.dp s h c.1) (DaAll.dp s t c.2)
end
theorem eqv_nilG (es : List PyData) : PyData.eqv (.list es) (.list []) = decide (es = []) := by
  cases es <;> simp [PyData.eqv, PyData.eqvAll]
theorem da_zip {K : PySem.W.Frag} {G : Hp} : ∀ {zs : List (V × PyData)}, (∀ z ∈ zs, Da K G z.1 z.2) → DaAll K G (zs.map Prod.fst) (zs.map Prod.snd)
  | [], _ => .nil
  | z :: zs, h => .cons (h z List.mem_cons_self) (da_zip fun x m => h x (List.mem_cons_of_mem _ m))
theorem erase_map {α β : Type} (f : α → β) : ∀ (ns : List α) (j : Nat), (ns.map f).eraseIdx j = (ns.eraseIdx j).map f
  | [], _ => rfl
  | _ :: _, 0 => rfl
  | n :: ns, j + 1 => congrArg (f n :: ·) (erase_map f ns j)
/-- items in another order; each with what it is -/
def spShuf (K : PySem.W.Frag) : Sp := fun vs H Q _ => ∃ (p l : Addr) (G : Hp) (a : Addr) (zs : List (V × PyData)), vs = [.ref p, .ref a] ∧ Wd p l G H ∧ (SqL K H a (zs.map Prod.fst) ∨ SqT K H a (zs.map Prod.fst)) ∧ zs.length ≤ 1000 ∧ (∀ z ∈ zs, Da K G z.1 z.2 ∧ Shp z.2) ∧
  ∀ (r : Addr) (ys : List (V × PyData)) (G' H' : Hp), Ext p l G H G' H' → H' r = some (.lst (ys.map Prod.fst)) → H r = none → G' r = none → ys.Perm zs → Q (.ref r) H'
def spStock (K : PySem.W.Frag) : Sp := fun vs H Q _ => ∃ (a : Addr) (ns : List Int), vs = [.ref a] ∧ SqL K H a (ns.map V.int) ∧ ns.length ≤ 63 ∧ ∀ p l G H', Wd p l G H' → Q (.ref p) H'
section
variable {P : Program} {w : World} {K : PySem.W.Frag} {mg : Str → Option Value} {base : Heap}
theorem D_l_shuffled (T : Txt K mg) : Df P w K mg base 2 "_law_shuffled" ["stock", "row"] (spShuf K) := by
  have D_l_draw := D_draw (P := P) (w := w) (base := base) T
  obtain ⟨f, fd, S⟩ := T.d_l_shuffled
  refine Df.mk' (k := 1) S sc_l_shuffled (fun vs H Q E h => ?_) (fun cdv A outer s H vs Q E hgd hr h => ?_)
  · obtain ⟨p, l, G, a, zs, rfl, _⟩ := h
    rfl
  · obtain ⟨p, l, G, a, zs, rfl, W, aL, lw, dz, k⟩ := h
    have line5 : (5000 : Nat) ≤ sizeLine := by decide
    refine ⟨_, (pss_cons (ps_par (i := 2) (j := 3) (by rfl) sc_l_shuffled.nd rfl rfl (by decide) rfl rfl (pa_cons (pe_callTy call_list_of (by rfl) T.b_list (by decide +kernel) (pa_cons (pv 1) pa_nil)) (pa_cons (pe_lst pa_nil) pa_nil)) (by rfl))
      (pss_cons (ps_for PassesOwn.never rfl (pi_range1 rfl T.b_range (pa_cons (pe_callB call_len_seq (by rfl) T.b_len (by decide +kernel) (pa_cons (pv 1) pa_nil)) pa_nil)) (pg_name (i := 4) sc_l_shuffled.nd rfl (.inl rfl))
      (pss_one (ps_expr (pe_bm PySem.F.plainAttrs_list PySem.F.slot_list_append PySem.F.type_list_append mt_append (pv 3) (pa_cons (pe_bm PySem.F.plainAttrs_list PySem.F.slot_list_pop PySem.F.type_list_pop mt_popAt (pv 2) (pa_cons (pe_d D_l_draw hgd hr (pa_cons (pv 0) (pa_cons (pe_callB call_len_seq (by rfl) T.b_len (by decide +kernel) (pa_cons (pv 2) pa_nil)) pa_nil))) pa_nil)) pa_nil)))))
      (pss_one (ps_ret (pv 3))))), ?_⟩
    refine ⟨_, rfl, a, zs.map Prod.fst, rfl, aL, fun q hq => ⟨Nat.zero_le _, fun r hr' => ⟨_, _, rfl, ?_⟩⟩⟩
    have nqr : q ≠ r := fun e => by
      rw [← e, upd_same] at hr'
      cases hr'
    have e1 := W.tmp (o := .lst (zs.map Prod.fst)) hq
    have e2 := e1.w.tmp (o := .lst []) hr'
    have qp := W.np hq
    have ql := W.nl hq
    have rp := e1.w.np hr'
    have rl := e1.w.nl hr'
    have gq : G q = none := W.same.free hq
    have gr : G r = none := e1.w.same.free hr'
    have hr0 : H r = none := by
      cases z : H r with
      | none => rfl
      | some o2 =>
        rw [upd_ne nqr.symm, z] at hr'
        cases hr'
    have E2 := e1.trans W e2
    have q2 : (upd (upd H q (.lst (zs.map Prod.fst))) r (.lst [])) q = some (.lst (zs.map Prod.fst)) := by rw [upd_ne nqr, upd_same]
    have r2 : (upd (upd H q (.lst (zs.map Prod.fst))) r (.lst [])) r = some (.lst (([] : List (V × PyData)).map Prod.fst)) := upd_same
    have aL2 : SqL K (upd (upd H q (.lst (zs.map Prod.fst))) r (.lst [])) a (zs.map Prod.fst) ∨ SqT K (upd (upd H q (.lst (zs.map Prod.fst))) r (.lst [])) a (zs.map Prod.fst) := aL.imp (((sameAdd hq).trans (sameAdd hr')).seq ·) (sameT ((sameAdd hq).trans (sameAdd hr')))
    generalize upd (upd H q (.lst (zs.map Prod.fst))) r (.lst []) = H2 at E2 q2 r2 aL2 ⊢
    dsimp only [gName, List.set]
    refine ⟨_, rfl, a, zs.map Prod.fst, rfl, aL2, ?_⟩
    refine ⟨_, rfl, by rw [List.length_map]; omega, by rw [List.length_map]; omega, for_range (lo := 0) (n := (((zs.map Prod.fst).length : Nat) : Int).toNat) (fun i σ H3 => ∃ o4, σ = [some (.ref p), some (.ref a), some (.ref q), some (.ref r), o4] ∧ ∃ xs ys : List (V × PyData), ys.length = i ∧ (xs ++ ys).Perm zs ∧ Ext p l G H G H3 ∧ H3 q = some (.lst (xs.map Prod.fst)) ∧ H3 r = some (.lst (ys.map Prod.fst)))
      ⟨_, rfl, zs, [], rfl, by rw [List.append_nil], E2, q2, r2⟩ ?_ ?_⟩
    · rintro i σ H4 hi ⟨o4, rfl, xs, ys, li, pm, E4, q4, r4⟩
      rw [Int.toNat_natCast, List.length_map] at hi
      have lxy : xs.length + ys.length = zs.length := by rw [← List.length_append]; exact pm.length_eq
      dsimp only [gName, List.set]
      refine ⟨_, rfl, .inl ⟨rfl, _, SqL.of r4⟩, _, rfl, .inl ⟨rfl, _, SqL.of q4⟩, _, rfl, _, rfl, q, xs.map Prod.fst, rfl, .inl (SqL.of q4), p, l, G, _, rfl, by rw [List.length_map]; omega, by rw [List.length_map]; omega, E4.w, fun d H5 d0 d1 e5 => ?_⟩
      rw [List.length_map] at d1
      have dn : d.toNat < xs.length := by omega
      have q5 := e5.keep _ _ qp ql q4
      have r5 := e5.keep _ _ rp rl r4
      have pm2 : (xs.eraseIdx d.toNat ++ (ys ++ [xs[d.toNat]])).Perm zs := by
        refine List.Perm.trans ?_ pm
        refine List.Perm.trans ?_ ((erase_perm xs d.toNat dn).append_right ys)
        rw [← List.append_assoc]
        exact List.perm_append_comm
      refine ⟨q, xs.map Prod.fst, d, d.toNat, xs[d.toNat].1, rfl, rfl, q5, by omega, by omega, ?_, by rw [List.getElem?_map, List.getElem?_eq_getElem dn]; rfl, ?_⟩
      · rw [List.length_map]
        have d2 : ¬ d < 0 := by omega
        simp [seqIndex?, d2, d0, d1]
      · have E5 := (E4.trans W e5)
        have W6 := E5.w.own (o := .lst ((xs.map Prod.fst).eraseIdx d.toNat)) qp ql gq
        refine ⟨r, ys.map Prod.fst, _, rfl, rfl, by rw [upd_ne nqr.symm]; exact r5, by rw [List.length_map]; omega, _, rfl, xs.eraseIdx d.toNat, ys ++ [xs[d.toNat]], by rw [List.length_append, li]; rfl, pm2, ?_, ?_, ?_⟩
        · refine ⟨W6.own rp rl gr, Same.refl G, fun b o n1 n2 hb => ?_, fun b o hb g => g⟩
          rw [upd_ne (ne_of_none hb hr0), upd_ne (ne_of_none hb hq)]
          exact E5.keep b o n1 n2 hb
        · rw [upd_ne nqr, upd_same, erase_map]
        · rw [upd_same, List.map_append]
          rfl
    · rintro σ H4 ⟨o4, rfl, xs, ys, li, pm, E4, q4, r4⟩
      rw [Int.toNat_natCast, List.length_map] at li
      have lxy : xs.length + ys.length = zs.length := by rw [← List.length_append]; exact pm.length_eq
      have x0 : xs = [] := List.length_eq_zero_iff.mp (by omega)
      subst x0
      exact ⟨_, rfl, k r ys _ H4 E4 r4 hr0 gr pm⟩
theorem D_stock (T : Txt K mg) : Df P w K mg base 1 "_law_stock" ["script"] (spStock K) := by
  obtain ⟨f, fd, S⟩ := T.d_l_stock
  refine Df.mk' (k := 0) S sc_l_stock (fun vs H Q E h => ?_) (fun cdv A outer s H vs Q E hgd hr h => ?_)
  · obtain ⟨a, ns, rfl, _⟩ := h
    rfl
  · obtain ⟨a, ns, rfl, hS, hz, k⟩ := h
    have hu := hu_of hr
    refine ⟨_, (pss_cons (ps_setLc (i := 1) (own := [("cell", 2)]) (g := gName 2) (tt := tYes) rfl sc_l_stock.nd rfl rfl (sw_true rfl rfl rfl (by decide +kernel)) (pi_list (pe_slice sl_list (pv 0) po_none (po_some pe_int))) (blkOk_by (own := [("cell", 2)]) (N := ["script", "flat", "cell"]) (sc := defScope s_l_stock) (by decide +kernel)) (fun _ _ _ _ _ => pg_name (i := 2) sc_l_stock.nd rfl (.inl rfl)) (fun _ _ _ _ _ => pts_nil) (fun _ _ _ _ _ => (pe_ifExp (pt_cmpR op_ge (pv 2) pe_int (nomark _)) (pe_op op_mul pe_int (pv 2)) (pe_op op_sub (pe_op op_mul (pe_un un_neg pe_int) (pv 2)) pe_int))))
      (pss_one (ps_ret (pe_lst (pa_cons (pe_lc (own := [("cell", 2)]) (g := gName 2) rfl sc_l_stock.nd (pi_list (pv 1)) (blkOk_by (own := [("cell", 2)]) (N := ["script", "flat", "cell"]) (sc := defScope s_l_stock) (by decide +kernel)) (fun _ _ _ _ _ => pg_name (i := 2) sc_l_stock.nd rfl (.inl rfl)) (fun _ _ _ _ _ => (pts_one (pt_cmpR op_ge (pv 2) (pe_op op_pow pe_int pe_int) (nomark _)))) (fun _ _ _ _ _ => (pv 2))) (pa_cons (pe_op op_cat (pv 1) (pe_lst (pa_cons (pe_op op_add (pe_callB call_len_seq (by rfl) T.b_len (by decide +kernel) (pa_cons (pv 1) pa_nil)) pe_int) pa_nil))) (pa_cons (pe_callB (cr_sum rfl) (by rfl) T.b_sum (by decide +kernel) (pa_cons (pv 1) pa_nil)) (pa_cons pe_int pa_nil)))))))), ?_⟩
    refine ⟨_, rfl, _, rfl, a, _, rfl, hS, fun q hq => ?_⟩
    obtain ⟨ms, e1, e2⟩ := cut_ints ns none (some 63)
    rw [e1]
    have s1 : Same H (upd H q (.lst (ms.map V.int))) := sameAdd hq
    have q1 : (upd H q (.lst (ms.map V.int))) q = some (.lst (ms.map V.int)) := upd_same
    generalize upd H q (.lst (ms.map V.int)) = H1 at s1 q1 ⊢
    refine ⟨q, rfl, ⟨_, SqL.of q1⟩, fun D hD => lc_list (K := K) (a := q) (xs := ms.map V.int) (fun i H3 => Same H1 H3 ∧ ∃ cs : List Int, cs.length = i ∧ H3 D = some (.lst (cs.map V.int))) ⟨sameAdd hD, [], rfl, upd_same⟩ (fun i H3 _ h => SqL.of (h.1 _ _ q1)) ?_ ?_⟩
    · rintro i x H3 hx ⟨s3, cs, rfl, hD3⟩
      have lx := (List.getElem?_eq_some_iff.mp hx).1
      rw [List.length_map] at lx
      obtain ⟨n, _, rfl⟩ := List.mem_map.mp (List.mem_of_getElem? hx)
      refine ⟨rfl, _, rfl, _, _, rfl, rfl, _, rfl, ite2 (fun hc => ?_) (fun hc => ?_)⟩
      · refine ⟨_, rfl, _, _, rfl, rfl, .inl ⟨by decide, by decide⟩, _, hD3, by rw [List.length_map]; exact small1000 (by omega), sameOut s3 hD, cs ++ [2 * n], by rw [List.length_append]; rfl, by rw [upd_same, List.map_append]; rfl⟩
      · refine ⟨_, rfl, _, rfl, _, _, rfl, rfl, .inl ⟨by decide, by decide⟩, _, _, rfl, rfl, _, hD3, by rw [List.length_map]; exact small1000 (by omega), sameOut s3 hD, cs ++ [-2 * n - 1], by rw [List.length_append]; rfl, by rw [upd_same, List.map_append]; rfl⟩
    · rintro H3 ⟨s3, cs, lc, hD3⟩
      rw [List.length_map] at lc
      dsimp only [gName, List.set]
      refine ⟨_, rfl, D, rfl, ⟨_, SqL.of hD3⟩, fun L hL => lc_list (K := K) (a := D) (xs := cs.map V.int) (fun i H5 => Same H3 H5 ∧ ∃ gs : List Int, gs.length ≤ i ∧ H5 L = some (.lst (gs.map V.int))) ⟨sameAdd hL, [], Nat.le_refl _, upd_same⟩ (fun i H5 _ h => SqL.of (h.1 _ _ hD3)) ?_ ?_⟩
      · rintro i x H5 hx ⟨s5, gs, lg, hL5⟩
        have lx := (List.getElem?_eq_some_iff.mp hx).1
        rw [List.length_map] at lx
        obtain ⟨n, _, rfl⟩ := List.mem_map.mp (List.mem_of_getElem? hx)
        refine ⟨rfl, _, rfl, _, _, rfl, rfl, ⟨by decide, by decide, by decide⟩, _, _, rfl, rfl, _, rfl, ite2 (fun hc => ?_) (fun hc => ?_)⟩
        · exact ⟨_, rfl, _, hL5, by rw [List.length_map]; exact small1000 (by omega), sameOut s5 hL, gs ++ [n], by rw [List.length_append, List.length_singleton]; omega, by rw [upd_same, List.map_append]; rfl⟩
        · exact ⟨s5, gs, by omega, hL5⟩
      · rintro H5 ⟨s5, gs, lg, hL5⟩
        rw [List.length_map] at lg
        have hD5 := s5 _ _ hD3
        refine ⟨_, rfl, _, rfl, D, cs.map V.int, rfl, .inl (SqL.of hD5), _, _, rfl, rfl, by show 1 ≤ sizeLine; decide, fun q2 hq2 => ?_⟩
        rw [List.length_map]
        dsimp only
        generalize (cs.length : Int) + 428 = last
        have s6 := sameAdd (o := .lst [V.int last]) hq2
        have hD6 := s6 _ _ hD5
        have hL6 := s6 _ _ hL5
        have q26 : (upd H5 q2 (.lst [V.int last])) q2 = some (.lst [V.int last]) := upd_same
        generalize upd H5 q2 (.lst [V.int last]) = H6 at s6 hD6 hL6 q26 ⊢
        refine ⟨D, q2, _, _, rfl, rfl, hD6, q26, by rw [List.length_map, List.length_singleton]; exact small1000 (by omega), fun A hA => ?_⟩
        have s7 := sameAdd (o := .lst (cs.map V.int ++ [V.int last])) hA
        have hD7 := s7 _ _ hD6
        have hL7 := s7 _ _ hL6
        have hA7 : (upd H6 A (.lst (cs.map V.int ++ [V.int last]))) A = some (.lst ((cs ++ [last]).map V.int)) := by rw [upd_same, List.map_append]; rfl
        have nLA : L ≠ A := fun e => by rw [e] at hL6; rw [hL6] at hA; cases hA
        generalize upd H6 A (.lst (cs.map V.int ++ [V.int last])) = H7 at s7 hD7 hL7 hA7 ⊢
        refine ⟨_, rfl, D, cs, rfl, SqL.of hD7, by show 4 ≤ sizeLine; decide, fun p hp => ?_⟩
        have nLp : L ≠ p := fun e => by rw [e, hp] at hL7; cases hL7
        have nAp : A ≠ p := fun e => by rw [e, hp] at hA7; cases hA7
        refine k p L (fun b => if b = A then some (.lst ((cs ++ [last]).map V.int)) else none) _ ⟨fun b o e => ?_, ?_, ?_, ⟨⟨A, cs ++ [last], cs.sum⟩, 0, ⟨?_, ?_, ?_⟩, Int.le_refl 0, upd_same⟩, ⟨gs, by omega, by rw [upd_ne nLp]; exact hL7⟩⟩
        · split at e
          · rename_i eb
            rw [eb, upd_ne nAp, hA7]
            exact e
          · cases e
        · exact if_neg fun e => nAp e.symm
        · exact if_neg fun e => nLA e
        · exact if_pos rfl
        · show 0 < (cs ++ [last]).length
          rw [List.length_append]
          exact Nat.lt_of_lt_of_le Nat.zero_lt_one (Nat.le_add_left _ _)
        · show (cs ++ [last]).length ≤ 64
          rw [List.length_append, List.length_singleton]
          omega
end
end L2.Hx

/-! Judgements of what the law draws. -/
namespace L2.Hx
open PySem PySem.Spec PyProof.Rows
theorem seq_by {a b : TS} {D : Ends} {σ : St} {H : Hp} (J : St → Hp → Prop) (h1 : (∀ σ2 H2, J σ2 H2 → b D σ2 H2) → a { D with nx := b D } σ H) (h2 : ∀ σ2 H2, J σ2 H2 → b D σ2 H2) : tSeq a b D σ H := h1 h2
theorem if_yes {c : Bool} {A B : Prop} (h : c = true) (a : A) : if c = true then A else B := by
  rw [h]
  exact a
def LsQ (φ : PyData → Prop) (lo m : Nat) (d : PyData) : Prop := ∃ ds, d = .list ds ∧ lo ≤ ds.length ∧ ds.length ≤ m ∧ ∀ x ∈ ds, φ x
def TpQ (φ : PyData → Prop) (m : Nat) (d : PyData) : Prop := ∃ ds, d = .tuple ds ∧ ds.length ≤ m ∧ ∀ x ∈ ds, φ x
abbrev Tm : PyData → Prop := Okd 0 90
/-- a def of the stock and of data, that tells data -/
def spG (K : PySem.W.Frag) (Ψ : List PyData → Prop) (φ : PyData → Prop) : Sp := fun vs H Q _ => ∃ (p l : Addr) (G : Hp) (us : List V) (ds : List PyData), vs = .ref p :: us ∧ Wd p l G H ∧ DaAll K G us ds ∧ Ψ ds ∧ ∀ v d G' H', Ext p l G H G' H' → Da K G' v d → φ d → Q v H'
/-- .. without the stock -/
def spV (K : PySem.W.Frag) (Ψ : List PyData → Prop) (φ : PyData → Prop) : Sp := fun vs H Q _ => ∃ (p l : Addr) (G : Hp) (ds : List PyData), Wd p l G H ∧ DaAll K G vs ds ∧ Ψ ds ∧ ∀ v d G' H', Ext p l G H G' H' → Da K G' v d → φ d → Q v H'
section
variable {K : PySem.W.Frag} {p l : Addr} {σ : St} {G : Hp} {φ ψ χ : PyData → Prop} {t ta tb te : TE} {tr : TA} {Φ Ψ : List PyData → Prop} {m m2 lo lo2 : Nat}
theorem td_call {i : Nat} (h : TDs K p l σ G tr Φ) (hΨ : ∀ ds, Φ ds → Ψ ds) (hd : σ[i]? = some (some (.ref p))) : TD K p l σ G (tCall (spG K Ψ φ) [] E0 (tCons (tVar i) tr)) φ := fun G1 H Q W s k =>
  ⟨_, hd, h G1 H _ W s fun vs ds G2 H2 e da f => ⟨p, l, G2, vs, ds, by rw [List.append_nil], e.w, da, hΨ ds f, fun v d G3 H3 e3 dd ff => k v d G3 H3 (e.trans W e3) dd ff⟩⟩
theorem td_callV (h : TDs K p l σ G tr Φ) (hΨ : ∀ ds, Φ ds → Ψ ds) : TD K p l σ G (tCall (spV K Ψ φ) [] E0 tr) φ := fun G1 H Q W s k =>
  h G1 H _ W s fun vs ds G2 H2 e da f => ⟨p, l, G2, ds, e.w, by rw [List.append_nil]; exact da, hΨ ds f, fun v d G3 H3 e3 dd ff => k v d G3 H3 (e.trans W e3) dd ff⟩
/-- the very data of a name -/
theorem td_is {i : Nat} {v : V} {d : PyData} (hi : σ[i]? = some (some v)) (hd : Da K G v d) : TD K p l σ G (tVar i) (fun x => x = d) := td_var hi hd rfl
theorem td_at {i : Nat} {c : Nat} {v : V} {d : PyData} {ds : List PyData} (hi : σ[i]? = some (some v)) (hv : Da K G v (.tuple ds)) (hc : ds[c]? = some d) (hf : φ d) : TD K p l σ G (tOp (rIxT K) (tVar i) (tC (.int (c : Int)))) φ := fun G1 H Q W s k => by
  obtain ⟨a, xs, rfl, sq, da⟩ := hv.tupI
  have hl := da.length
  have lt := (List.getElem?_eq_some_iff.mp hc).1
  have hx := List.getElem?_eq_getElem (show c < xs.length by omega)
  refine ⟨_, hi, a, xs, (c : Int), xs[c]'(by omega), rfl, rfl, sameT (s.trans W.same) sq, ?_, ?_⟩
  rotate_left 1
  · obtain ⟨d2, e2, q2⟩ := da.get hx
    rw [hc] at e2
    rw [← Option.some.inj e2] at q2
    exact k _ d _ _ (Ext.refl W) (q2.mono s) hf
  unfold atI ixN
  rw [if_pos (by omega), if_pos (by omega)]
  exact hx
theorem td_catQ (ha : TD K p l σ G ta (LsQ φ lo m)) (hb : TD K p l σ G tb (LsQ φ lo2 m2)) (hz : m + m2 ≤ sizeLine := by decide) : TD K p l σ G (tOp rCat ta tb) (LsQ φ (lo + lo2) (m + m2)) := fun G1 H Q W s k =>
  ha G1 H _ W s fun v d G2 H2 e da f => hb G2 H2 _ e.w (s.trans e.sub) fun u d2 G3 H3 e3 da3 f3 => by
    obtain ⟨ds, rfl, z1, l1, o1⟩ := f
    obtain ⟨es, rfl, z2, l2, o2⟩ := f3
    have E := e.trans W e3
    cases da with
    | @lst a xs _ t1 a1 =>
      cases da3 with
      | @lst b ys _ t2 a2 =>
        refine ⟨a, b, xs, ys, rfl, rfl, (e3.sub.trans e3.w.same) _ _ t1, e3.w.same _ _ t2, by rw [a1.length, a2.length]; omega, fun c hc => ?_⟩
        have e4 := e3.w.put (o := .lst (xs ++ ys)) hc
        refine k _ _ _ _ (E.trans W e4) (.lst upd_same ((a1.mono (e3.sub.trans e4.sub)).append (a2.mono e4.sub))) ⟨ds ++ es, rfl, by rw [List.length_append]; omega, by rw [List.length_append]; omega, fun x mx => ?_⟩
        rcases List.mem_append.mp mx with mx | mx
        · exact o1 x mx
        · exact o2 x mx
/-- list(t), t a tuple or a list -/
abbrev rLstOf (K : PySem.W.Frag) : List V → Hp → VK → Prop := fun xs H Q => ∃ p ys, xs = [.ref p] ∧ (SqL K H p ys ∨ SqT K H p ys) ∧ ∀ l, H l = none → Q (.ref l) (upd H l (.lst ys))
abbrev rTpOf (K : PySem.W.Frag) : List V → Hp → VK → Prop := fun xs H Q => ∃ p ys, xs = [.ref p] ∧ ((SqL K H p ys ∧ ∀ l, H l = none → Q (.ref l) (upd H l (.tup ys))) ∨ (SqT K H p ys ∧ Q (.ref p) H))
theorem td_listT (ha : TD K p l σ G ta (TpQ φ m)) : TD K p l σ G (tCB (rLstOf K) (tCons ta tNil)) (LsQ φ 0 m) := fun G1 H Q W s k =>
  ha G1 H _ W s fun v d G2 H2 e da f => by
    obtain ⟨ds, rfl, l1, o1⟩ := f
    obtain ⟨a, xs, rfl, sq, dx⟩ := da.tupI
    refine ⟨a, xs, rfl, .inr (sameT e.w.same sq), fun q hq => ?_⟩
    have e4 := e.w.put (o := .lst xs) hq
    exact k _ _ _ _ (e.trans W e4) (.lst upd_same (dx.mono e4.sub)) ⟨ds, rfl, Nat.zero_le _, l1, o1⟩
theorem td_listL (ha : TD K p l σ G ta (LsQ φ lo m)) : TD K p l σ G (tCB (rLstOf K) (tCons ta tNil)) (LsQ φ lo m) := fun G1 H Q W s k =>
  ha G1 H _ W s fun v d G2 H2 e da f => by
    obtain ⟨ds, rfl, z1, l1, o1⟩ := f
    cases da with
    | @lst a xs _ t1 a1 =>
      refine ⟨a, xs, rfl, .inl (SqL.of (e.w.same _ _ t1)), fun q hq => ?_⟩
      have e4 := e.w.put (o := .lst xs) hq
      exact k _ _ _ _ (e.trans W e4) (.lst upd_same (a1.mono e4.sub)) ⟨ds, rfl, z1, l1, o1⟩
theorem td_tupL (ha : TD K p l σ G ta (LsQ φ lo m)) : TD K p l σ G (tCB (rTpOf K) (tCons ta tNil)) (TpQ φ m) := fun G1 H Q W s k =>
  ha G1 H _ W s fun v d G2 H2 e da f => by
    obtain ⟨ds, rfl, z1, l1, o1⟩ := f
    cases da with
    | @lst a xs _ t1 a1 =>
      refine ⟨a, xs, rfl, .inl ⟨SqL.of (e.w.same _ _ t1), fun q hq => ?_⟩⟩
      have e4 := e.w.put (o := .tup xs) hq
      exact k _ _ _ _ (e.trans W e4) (.tup (SqT.of upd_same) (a1.mono e4.sub)) ⟨ds, rfl, l1, o1⟩
theorem td_lstQ (h : TDs K p l σ G tr (AllF φ m)) (hz : m ≤ sizeLine := by decide) : TD K p l σ G (tLst tr) (LsQ φ m m) := TD.imp (td_lstP h fun ds f => by rw [f.1]; exact hz) fun d ⟨ds, e, l1, h1⟩ => ⟨ds, e, by omega, by omega, h1⟩
theorem LsQ.P {d : PyData} (h : LsQ φ lo m d) (hlo : 0 < lo := by decide) (hm : m < 1000000 := by decide) : LsP φ d := by
  obtain ⟨ds, e, z1, l1, o1⟩ := h
  exact ⟨ds, e, by omega, by omega, o1⟩
theorem td_pickQ {i : Nat} (h : TD K p l σ G ta (LsQ ψ lo m)) (hd : σ[i]? = some (some (.ref p))) (hlo : 0 < lo := by decide) (hm : m < 1000000 := by decide) : TD K p l σ G (tCall spPick [] E0 (tCons (tVar i) (tCons ta tNil))) ψ := td_pick (h.imp fun d f => f.P hlo hm) hd
theorem td_tupQ (h : TDs K p l σ G tr (AllF φ m)) (hz : m ≤ sizeLine := by decide) : TD K p l σ G (tTup tr) (TpQ φ m) := TD.imp (td_tupP h fun ds f => by rw [f.1]; exact hz) fun d ⟨ds, e, l1, h1⟩ => ⟨ds, e, by omega, h1⟩
theorem LsQ.imp {d : PyData} (h : LsQ φ lo m d) (hi : ∀ x, φ x → ψ x) (hl : lo2 ≤ lo := by decide) (hm : m ≤ m2 := by decide) : LsQ ψ lo2 m2 d := by
  obtain ⟨ds, e, z1, l1, o1⟩ := h
  exact ⟨ds, e, by omega, by omega, fun x mx => hi x (o1 x mx)⟩
theorem TpQ.imp {d : PyData} (h : TpQ φ m d) (hi : ∀ x, φ x → ψ x) (hm : m ≤ m2 := by decide) : TpQ ψ m2 d := by
  obtain ⟨ds, e, l1, o1⟩ := h
  exact ⟨ds, e, by omega, fun x mx => hi x (o1 x mx)⟩
theorem TpQ.okd {k n N : Nat} {d : PyData} (h : TpQ (Okd k n) m d) (hN : (n + 2) * m + 3 ≤ N := by decide) : Okd (k + 1) N d := by
  obtain ⟨ds, rfl, l1, o1⟩ := h
  exact Okd.tup o1 l1 hN
theorem tw_draw {i : Nat} {c : Int} (hd : σ[i]? = some (some (.ref p))) (h0 : 1 ≤ c := by decide) (h1 : c < 1000 := by decide) : TW p l σ G (iRng1 (tCons (tCall spDraw [] E0 (tCons (tVar i) (tCons (tC (.int c)) tNil))) tNil)) (fun N => (N : Int) < c) := fun G1 H R W s k =>
  ⟨_, hd, p, l, G1, c, rfl, by omega, by omega, W, fun r H1 r0 r1 e => ⟨r, rfl, by omega, by omega, k _ _ _ (by omega) e⟩⟩
theorem tw_drawv {i j : Nat} {c : Int} (hd : σ[i]? = some (some (.ref p))) (hj : σ[j]? = some (some (.int c))) (h0 : 1 ≤ c) (h1 : c < 1000) : TW p l σ G (iRng1 (tCons (tCall spDraw [] E0 (tCons (tVar i) (tCons (tVar j) tNil))) tNil)) (fun N => (N : Int) < c) := fun G1 H R W s k =>
  ⟨_, hd, _, hj, p, l, G1, c, rfl, by omega, by omega, W, fun r H1 r0 r1 e => ⟨r, rfl, by omega, by omega, k _ _ _ (by omega) e⟩⟩
theorem tw_1drawv {i j : Nat} {c : Int} (hd : σ[i]? = some (some (.ref p))) (hj : σ[j]? = some (some (.int c))) (h0 : 1 ≤ c) (h1 : c < 1000) : TW p l σ G (iRng1 (tCons (tOp (rI0 fun i j => .int (i + j)) (tC (.int 1)) (tCall spDraw [] E0 (tCons (tVar i) (tCons (tVar j) tNil)))) tNil)) (fun N => (N : Int) ≤ c) := fun G1 H R W s k =>
  ⟨_, hd, _, hj, p, l, G1, c, rfl, by omega, by omega, W, fun r H1 r0 r1 e => ⟨_, _, rfl, rfl, _, rfl, by omega, by omega, k _ _ _ (by omega) e⟩⟩
theorem td_slL {tl th : TO} (ha : TD K p l σ G ta (LsQ φ lo m)) (hl : TPt σ tl) (hh : TPt σ th) : TD K p l σ G (tSl (rSlL K) ta tl th) (LsQ φ 0 m) := fun G1 H Q W s k =>
  ha G1 H _ W s fun v d G2 H2 e da f => hl H2 _ fun lo => hh H2 _ fun hi => by
    obtain ⟨ds, rfl, z1, l1, o1⟩ := f
    cases da with
    | @lst a xs _ t1 a1 =>
      refine ⟨a, xs, rfl, SqL.of (e.w.same _ _ t1), fun c hc => ?_⟩
      have e4 := e.w.put (o := .lst (cutV xs lo hi)) hc
      refine k _ _ _ _ (e.trans W e4) (.lst upd_same (((a1.drop _).take _).mono e4.sub)) ⟨_, rfl, Nat.zero_le _, ?_, fun x mx => o1 x (List.mem_of_mem_drop (List.mem_of_mem_take mx))⟩
      rw [List.length_take, List.length_drop]
      omega
theorem td_ixL {ti : TE} {c : Int} (ha : TD K p l σ G ta (LsQ φ m m)) (hi : ∀ (H : Hp) (Q : VK), Q (.int c) H → ti σ H Q) (c0 : 0 ≤ c) (c1 : c < m) : TD K p l σ G (tOp (rIxL K) ta ti) φ := fun G1 H Q W s k =>
  ha G1 H _ W s fun v d G2 H2 e da f => by
    obtain ⟨ds, rfl, z1, l1, o1⟩ := f
    cases da with
    | @lst a xs _ t1 a1 =>
      have hl := a1.length
      obtain ⟨x, hx, mx⟩ := atI_nat2 (xs := xs) c0 (by omega)
      obtain ⟨d, md, dd⟩ := a1.mem mx
      exact hi _ _ ⟨a, xs, c, x, rfl, rfl, SqL.of (e.w.same _ _ t1), hx, k x d _ _ e dd (o1 d md)⟩
/-- for .. in range(..): xs.append(e), xs one's own -/
theorem for_app {wi : TI} {i j M : Nat} {ν : Nat → Prop} {D : Ends} {H : Hp} {r : Addr} (hw : TW p l σ G wi ν) (hM : ∀ N, ν N → N ≤ M) (hM2 : M < 1000) (W : Wd p l G H) (hj : j < σ.length) (hr : ∀ o, (σ.set j o)[i]? = some (some (.ref r))) (rp : r ≠ p) (rl : r ≠ l) (gr : G r = none) (hR : H r = some (.lst []))
    (he : ∀ o, TD K p l (σ.set j o) G te φ)
    (k : ∀ (o : Option V) vs ds G2 H2, Wd p l G2 H2 → Same G G2 → G2 r = none → (∀ b o', b ≠ p → b ≠ l → b ≠ r → H b = some o' → H2 b = some o') → (∀ b o', H b = some o' → G b = none → G2 b = none) → H2 r = some (.lst vs) → DaAll K G2 vs ds → ν ds.length → (∀ x ∈ ds, φ x) → D.nx (σ.set j o) H2) :
    tFor wi (gName j) (tDrop (tBM K "list" rAppend (tVar i) (tCons te tNil))) D σ H :=
  hw G H _ W (Same.refl G) fun N G1 H1 hN e1 => by
    have hMN := hM N hN
    refine for_range (lo := 0) (n := N) (fun q σ2 H3 => ∃ (o : Option V) (G3 : Hp) (vs : List V) (ds : List PyData), σ2 = σ.set j o ∧ Wd p l G3 H3 ∧ Same G1 G3 ∧ G3 r = none ∧ H3 r = some (.lst vs) ∧ DaAll K G3 vs ds ∧ ds.length = q ∧ (∀ x ∈ ds, φ x) ∧
        (∀ b o', b ≠ p → b ≠ l → b ≠ r → H1 b = some o' → H3 b = some o') ∧ (∀ b o', H1 b = some o' → G1 b = none → G3 b = none))
      ⟨σ[j], G1, [], [], (List.set_getElem_self _).symm, e1.w, Same.refl _, e1.new _ _ hR gr, e1.keep _ _ rp rl hR, .nil, rfl, fun x m => absurd m List.not_mem_nil, fun b o' _ _ _ q => q, fun b o' _ g => g⟩ ?_ ?_
    · rintro q σ2 H3 hq ⟨o, G3, vs, ds, rfl, w3, s3, g3, r3, da3, l3, f3, k3, n3⟩
      show (tBM K "list" rAppend (tVar i) (tCons te tNil)) ((σ.set j o).set j (some (.int (0 + (q : Int))))) H3 _
      rw [List.set_set]
      refine ⟨_, hr _, .inl ⟨rfl, _, SqL.of r3⟩, ?_⟩
      refine he _ G3 H3 _ w3 (e1.sub.trans s3) fun v d G4 H4 e4 da4 f4 => ?_
      have r4 := e4.keep _ _ rp rl r3
      have g4 := e4.new _ _ r3 g3
      refine ⟨r, vs, v, rfl, rfl, r4, by rw [da3.length, l3]; have : (1000 : Nat) ≤ sizeLine := by decide
                                         omega, ?_⟩
      refine ⟨_, G4, vs ++ [v], ds ++ [d], rfl, e4.w.own rp rl g4, s3.trans e4.sub, g4, upd_same, (da3.mono e4.sub).append (.cons da4 .nil), by rw [List.length_append, l3]; rfl, fun x m => ?_, fun b o' n1 n2 n4 q => ?_, fun b o' q g => ?_⟩
      · rcases List.mem_append.mp m with m | m
        · exact f3 x m
        · rw [List.mem_singleton.mp m]
          exact f4
      · rw [upd_ne n4]
        exact e4.keep _ _ n1 n2 (k3 b o' n1 n2 n4 q)
      · by_cases b1 : b = p
        · subst b1
          exact e4.w.gp
        · by_cases b2 : b = l
          · subst b2
            exact e4.w.gl
          · by_cases b3 : b = r
            · subst b3
              exact g4
            · exact e4.new b o' (k3 b o' b1 b2 b3 q) (n3 b o' q g)
    · rintro σ2 H3 ⟨o, G3, vs, ds, rfl, w3, s3, g3, r3, da3, l3, f3, k3, n3⟩
      exact k o vs ds G3 H3 w3 (e1.sub.trans s3) g3 (fun b o' n1 n2 n4 q => k3 b o' n1 n2 n4 (e1.keep _ _ n1 n2 q)) (fun b o' q g => by
        by_cases b1 : b = p
        · subst b1
          exact w3.gp
        · by_cases b2 : b = l
          · subst b2
            exact w3.gl
          · exact n3 b o' (e1.keep _ _ b1 b2 q) (e1.new _ _ q g)) r3 da3 (by rw [l3]; exact hN) f3
theorem Ext.old {H G1 H1 : Hp} {r : Addr} (e : Ext p l G H G1 H1) (h : H1 r = none) : H r = none := by
  cases q : H r with
  | none => rfl
  | some o =>
    have := e.keep r o (e.w.np h) (e.w.nl h) q
    rw [h] at this
    cases this
theorem ext_app {H G1 H1 G2 H2 : Hp} {r : Addr} (E : Ext p l G H G1 H1) (h0 : H r = none) (w2 : Wd p l G2 H2) (s : Same G1 G2) (k : ∀ b o', b ≠ p → b ≠ l → b ≠ r → H1 b = some o' → H2 b = some o') (n : ∀ b o', H1 b = some o' → G1 b = none → G2 b = none) : Ext p l G H G2 H2 :=
  ⟨w2, E.sub.trans s, fun b o n1 n2 q => k b o n1 n2 (ne_of_none q h0) (E.keep b o n1 n2 q), fun b o q g => by
    by_cases b1 : b = p
    · subst b1
      exact w2.gp
    · by_cases b2 : b = l
      · subst b2
        exact w2.gl
      · exact n b o (E.keep b o b1 b2 q) (E.new b o q g)⟩
end
end L2.Hx

/-! Judgements that tell the very data. -/
namespace L2.Hx
open PySem PySem.Spec PyProof.Rows
abbrev TX (K : PySem.W.Frag) (p l : Addr) (σ : St) (G : Hp) (t : TE) (d : PyData) : Prop := TD K p l σ G t (fun x => x = d)
abbrev TXs (K : PySem.W.Frag) (p l : Addr) (σ : St) (G : Hp) (t : TA) (ds : List PyData) : Prop := TDs K p l σ G t (fun x => x = ds)
/-- a def of data whose value is told -/
def spF (K : PySem.W.Frag) (R : List PyData → PyData → Prop) : Sp := fun vs H Q _ => ∃ (p l : Addr) (G : Hp) (ds : List PyData) (d : PyData), Wd p l G H ∧ DaAll K G vs ds ∧ R ds d ∧ ∀ v G' H', Ext p l G H G' H' → Da K G' v d → Q v H'
abbrev rLenQ (K : PySem.W.Frag) : List V → Hp → VK → Prop := fun xs H Q => ∃ p ys, xs = [.ref p] ∧ (SqL K H p ys ∨ SqT K H p ys) ∧ Q (.int ys.length) H
section
variable {K : PySem.W.Frag} {p l : Addr} {σ : St} {G : Hp} {t ta tb te : TE} {tr : TA} {d : PyData} {ds as bs : List PyData} {i j : Int}
theorem tx_nil : TXs K p l σ G tNil [] := tds_nilP
theorem tx_cons (h : TX K p l σ G t d) (hr : TXs K p l σ G tr ds) : TXs K p l σ G (tCons t tr) (d :: ds) := fun G1 H Q W s k =>
  tds_consP h hr G1 H Q W s fun vs ds' G2 H2 e da f => by
    obtain ⟨_, _, rfl, rfl, rfl⟩ := f
    exact k _ _ _ _ e da rfl
theorem tx_of {φ : PyData → Prop} (h : TX K p l σ G t d) (hf : φ d) : TD K p l σ G t φ := h.imp fun x e => by rw [e]; exact hf
theorem tx_tup (h : TXs K p l σ G tr ds) (hz : ds.length ≤ sizeLine := by decide) : TX K p l σ G (tTup tr) (.tuple ds) := (td_tupP h fun x e => by rw [e]; exact hz).imp fun x ⟨y, e, f⟩ => by rw [e, f]
theorem tx_lst (h : TXs K p l σ G tr ds) (hz : ds.length ≤ sizeLine := by decide) : TX K p l σ G (tLst tr) (.list ds) := fun G1 H Q W s k =>
  h G1 H _ W s fun vs ds' G2 H2 e da f => by
    subst f
    exact ⟨by rw [da.length]; exact hz, fun a ha => k _ _ _ _ (e.trans W (e.w.put ha)) (.lst upd_same (da.mono (e.w.put (o := .lst vs) ha).sub)) rfl⟩
theorem tx_int : TX K p l σ G (tC (.int i)) (.int i) := TD.flat (fun _ => .int i) rfl
theorem tx_str {x : Str} : TX K p l σ G (tC (.str x)) (.str x) := TD.flat (fun _ => .str x) rfl
theorem tx_non : TX K p l σ G (tC .non) .none := TD.flat (fun _ => .non) rfl
theorem tx_cat (ha : TX K p l σ G ta (.list as)) (hb : TX K p l σ G tb (.list bs)) (hz : as.length + bs.length ≤ sizeLine) : TX K p l σ G (tOp rCat ta tb) (.list (as ++ bs)) := fun G1 H Q W s k =>
  ha G1 H _ W s fun v d G2 H2 e da f => hb G2 H2 _ e.w (s.trans e.sub) fun u d2 G3 H3 e3 da3 f3 => by
    subst f f3
    have E := e.trans W e3
    cases da with
    | @lst a xs _ t1 a1 =>
      cases da3 with
      | @lst b ys _ t2 a2 =>
        refine ⟨a, b, xs, ys, rfl, rfl, (e3.sub.trans e3.w.same) _ _ t1, e3.w.same _ _ t2, by rw [a1.length, a2.length]; omega, fun c hc => ?_⟩
        have e4 := e3.w.put (o := .lst (xs ++ ys)) hc
        exact k _ _ _ _ (E.trans W e4) (.lst upd_same ((a1.mono (e3.sub.trans e4.sub)).append (a2.mono e4.sub))) rfl
theorem tx_catA (ha : TX K p l σ G ta (.tuple as)) (hb : TX K p l σ G tb (.tuple bs)) (hz : as.length + bs.length ≤ sizeLine) : TX K p l σ G (tOp (rCatA K) ta tb) (.tuple (as ++ bs)) := fun G1 H Q W s k =>
  ha G1 H _ W s fun v d G2 H2 e da f => hb G2 H2 _ e.w (s.trans e.sub) fun u d2 G3 H3 e3 da3 f3 => by
    subst f f3
    obtain ⟨a, xs, rfl, t1, a1⟩ := da.tupI
    obtain ⟨b, ys, rfl, t2, a2⟩ := da3.tupI
    have E := e.trans W e3
    refine ⟨a, b, xs, ys, rfl, rfl, sameT (e3.sub.trans e3.w.same) t1, sameT e3.w.same t2, by rw [a1.length, a2.length]; omega, fun hx => ?_, fun hx hy => ?_, fun hx hy c hc => ?_⟩
    · subst hx
      cases a1
      exact k _ _ _ _ E da3 rfl
    · subst hy
      cases a2
      rw [List.append_nil] at k
      exact k _ _ _ _ E (da.mono e3.sub) rfl
    · have e4 := e3.w.put (o := .tup (xs ++ ys)) hc
      exact k _ _ _ _ (E.trans W e4) (.tup (SqT.of upd_same) ((a1.mono (e3.sub.trans e4.sub)).append (a2.mono e4.sub))) rfl
theorem tx_add (ha : TX K p l σ G ta (.int i)) (hb : TX K p l σ G tb (.int j)) : TX K p l σ G (tOp (rI0 fun i j => .int (i + j)) ta tb) (.int (i + j)) := fun G1 H Q W s k =>
  ha G1 H _ W s fun v d G2 H2 e da f => hb G2 H2 _ e.w (s.trans e.sub) fun u d2 G3 H3 e3 da3 f3 => by
    subst f f3
    cases da
    cases da3
    exact ⟨_, _, rfl, rfl, k _ _ _ _ (e.trans W e3) (.int _) rfl⟩
theorem tx_len (ha : TX K p l σ G ta (.list as)) : TX K p l σ G (tCB (rLenQ K) (tCons ta tNil)) (.int (as.length : Nat)) := fun G1 H Q W s k =>
  ha G1 H _ W s fun v d G2 H2 e da f => by
    subst f
    cases da with
    | @lst a xs _ t1 a1 => exact ⟨a, xs, rfl, .inl (SqL.of (e.w.same _ _ t1)), k _ _ _ _ e (by rw [a1.length]; exact .int _) rfl⟩
theorem tx_lenT (ha : TX K p l σ G ta (.tuple as)) : TX K p l σ G (tCB (rLenQ K) (tCons ta tNil)) (.int (as.length : Nat)) := fun G1 H Q W s k =>
  ha G1 H _ W s fun v d G2 H2 e da f => by
    subst f
    obtain ⟨a, xs, rfl, t1, a1⟩ := da.tupI
    exact ⟨a, xs, rfl, .inr (sameT e.w.same t1), k _ _ _ _ e (by rw [a1.length]; exact .int _) rfl⟩
theorem tx_ix {c : Nat} (ha : TX K p l σ G ta (.tuple ds)) (hc : ds[c]? = some d) : TX K p l σ G (tOp (rIxT K) ta (tC (.int (c : Int)))) d := fun G1 H Q W s k =>
  ha G1 H _ W s fun v d2 G2 H2 e da f => by
    subst f
    obtain ⟨a, xs, rfl, sq, da⟩ := da.tupI
    have hl := da.length
    have lt := (List.getElem?_eq_some_iff.mp hc).1
    have hx := List.getElem?_eq_getElem (show c < xs.length by omega)
    refine ⟨a, xs, (c : Int), xs[c]'(by omega), rfl, rfl, sameT e.w.same sq, ?_, ?_⟩
    rotate_left 1
    · obtain ⟨d2, e2, q2⟩ := da.get hx
      rw [hc] at e2
      rw [← Option.some.inj e2] at q2
      exact k _ d _ _ e q2 rfl
    unfold atI ixN
    rw [if_pos (by omega), if_pos (by omega)]
    exact hx
theorem cut_take {xs : List V} (n : Nat) : cutV xs none (some (n : Int)) = xs.take n := by
  unfold cutV
  rw [HT.sIx_none, HT.sIx_nat, List.drop_zero, Nat.sub_zero]
  rcases Nat.le_total n xs.length with h | h
  · rw [Nat.min_eq_left h]
  · rw [Nat.min_eq_right h, List.take_length, List.take_of_length_le h]
theorem tx_take (n : Nat) (ha : TX K p l σ G ta (.tuple as)) : TX K p l σ G (tSl (rSlA K) ta tNoPart (tPart (tC (.int (n : Int))))) (.tuple (as.take n)) := fun G1 H Q W s k =>
  ha G1 H _ W s fun v d G2 H2 e da f => by
    subst f
    obtain ⟨a, xs, rfl, t1, a1⟩ := da.tupI
    refine ⟨_, rfl, a, xs, rfl, sameT e.w.same t1, fun hw => ?_, fun _ c hc => ?_⟩
    · have hw := hw.2
      rw [HT.sIx_nat] at hw
      refine k _ _ _ _ e da ?_
      rw [List.take_of_length_le (by rw [← a1.length]; omega)]
    · rw [cut_take]
      have e4 := e.w.put (o := .tup (xs.take n)) hc
      exact k _ _ _ _ (e.trans W e4) (.tup (SqT.of upd_same) ((a1.take n).mono e4.sub)) rfl
theorem tx_call {R : List PyData → PyData → Prop} (h : TXs K p l σ G tr ds) (hR : R ds d) : TX K p l σ G (tCall (spF K R) [] E0 tr) d := fun G1 H Q W s k =>
  h G1 H _ W s fun vs ds' G2 H2 e da f => by
    subst f
    exact ⟨p, l, G2, ds', d, e.w, by rw [List.append_nil]; exact da, hR, fun v G3 H3 e3 dd => k v d G3 H3 (e.trans W e3) dd rfl⟩
theorem da_ints : ∀ {vs : List V} {ns : List Int}, DaAll K G vs (ns.map .int) → vs = ns.map V.int
  | _, [], .nil => rfl
  | _, n :: ns, .cons h t => by
    cases h
    rw [da_ints t]
    rfl
theorem tx_sum {ns : List Int} (ha : TX K p l σ G ta (.list (ns.map .int))) : TX K p l σ G (tCB (rSum K) (tCons ta tNil)) (.int ns.sum) := fun G1 H Q W s k =>
  ha G1 H _ W s fun v d G2 H2 e da f => by
    subst f
    cases da with
    | @lst a xs _ t1 a1 =>
      rw [da_ints a1] at t1
      exact ⟨a, ns, rfl, SqL.of (e.w.same _ _ t1), k _ _ _ _ e (.int _) rfl⟩
theorem tx_tupOfL (ha : TX K p l σ G ta (.list as)) : TX K p l σ G (tCB (rTpOf K) (tCons ta tNil)) (.tuple as) := fun G1 H Q W s k =>
  ha G1 H _ W s fun v d G2 H2 e da f => by
    subst f
    cases da with
    | @lst a xs _ t1 a1 =>
      refine ⟨a, xs, rfl, .inl ⟨SqL.of (e.w.same _ _ t1), fun q hq => ?_⟩⟩
      have e4 := e.w.put (o := .tup xs) hq
      exact k _ _ _ _ (e.trans W e4) (.tup (SqT.of upd_same) (a1.mono e4.sub)) rfl
/-- one turn of a block over held data -/
def Turn (K : PySem.W.Frag) (p l : Addr) (σ : St) (G : Hp) (g : TG) (te : TE) (vs : List Nat) (d d' : PyData) : Prop := ∀ (x : V) (G1 H : Hp) (R : VK), Da K G1 x d → Wd p l G1 H → Same G G1 → (∀ v G2 H2, Ext p l G1 H G2 H2 → Da K G2 v d' → R v H2) → g x (wipe σ vs) H fun σ2 H2 => wipe σ2 vs = wipe σ vs ∧ te σ2 H2 R
theorem tx_lc_core {g : TG} {vs : List Nat} {α : Type} {ss : List α} {A B : α → PyData} {xs : List V} {G1 H1 : Hp} {Q : VK} {D : Addr} (W : Wd p l G1 H1) (s : Same G G1) (dx : DaAll K G1 xs (ss.map A)) (hz : ss.length < sizeLine) (ht : ∀ s ∈ ss, Turn K p l σ G g te vs (A s) (B s)) (hD : H1 D = none)
    (k : ∀ v d G2 H2, Ext p l G1 H1 G2 H2 → Da K G2 v d → d = .list (ss.map B) → Q v H2) :
    ∃ Pv : Nat → Hp → Prop, Pv 0 (upd H1 D (.lst [])) ∧ (∀ i H, Pv i H → ∃ G3, Wd p l G3 H ∧ Same G1 G3) ∧ (∀ i x H, xs[i]? = some x → Pv i H → g x (wipe σ vs) H fun σ2 H2 => wipe σ2 vs = wipe σ vs ∧ tYes σ2 H2 fun b H3 =>
      if b = true then te σ2 H3 fun y H4 => ∃ acc, H4 D = some (.lst acc) ∧ acc.length < sizeLine ∧ Pv (i + 1) (upd H4 D (.lst (acc ++ [y]))) else Pv (i + 1) H3) ∧ ∀ H, Pv xs.length H → Q (.ref D) H := by
  have nDp := W.np hD
  have nDl := W.nl hD
  have E1 := W.tmp (o := .lst []) hD
  refine ⟨fun i H3 => ∃ G3 ys, Wd p l G3 H3 ∧ Same G1 G3 ∧ G3 D = none ∧ H3 D = some (.lst ys) ∧ DaAll K G3 ys ((ss.take i).map B) ∧
        (∀ b o, b ≠ p → b ≠ l → b ≠ D → H1 b = some o → H3 b = some o) ∧ (∀ b o, H1 b = some o → G1 b = none → G3 b = none),
      ⟨G1, [], E1.w, Same.refl _, W.same.free hD, upd_same, .nil, fun b o n1 n2 n3 q => by rw [upd_ne n3]; exact q, fun b o _ g => g⟩, fun i H ⟨G3, _, w3, s3, _⟩ => ⟨G3, w3, s3⟩, ?_, ?_⟩
  · rintro i x H3 hx ⟨G3, ys, w3, s3, gD, hD3, da3, k3, n3⟩
    obtain ⟨d, hd, dd⟩ := dx.get hx
    rw [List.getElem?_map] at hd
    obtain ⟨z, hq, rfl⟩ := Option.map_eq_some_iff.mp hd
    have lt := (List.getElem?_eq_some_iff.mp hq).1
    refine ht z (List.mem_of_getElem? hq) x G3 H3 _ (dd.mono s3) w3 (s.trans s3) fun v G4 H4 e4 da4 => ?_
    have hD4 : H4 D = some (.lst ys) := e4.keep _ _ nDp nDl hD3
    have gD4 : G4 D = none := e4.new _ _ hD3 gD
    have hl := da3.length
    rw [List.length_map, List.length_take] at hl
    refine ⟨ys, hD4, by omega, G4, ys ++ [v], e4.w.own nDp nDl gD4, s3.trans e4.sub, gD4, upd_same, ?_, fun b o n1 n2 n4 q => ?_, fun b o q g => ?_⟩
    · rw [List.take_succ, hq]
      show DaAll K G4 _ ((ss.take i ++ [z]).map B)
      rw [List.map_append]
      exact (da3.mono e4.sub).append (.cons da4 .nil)
    · rw [upd_ne n4]
      exact e4.keep _ _ n1 n2 (k3 b o n1 n2 n4 q)
    · have g3 := n3 b o q g
      by_cases b1 : b = p
      · subst b1
        exact e4.w.gp
      · by_cases b2 : b = l
        · subst b2
          exact e4.w.gl
        · exact e4.new b o (k3 b o b1 b2 (ne_of_none q hD) q) g3
  · rintro H3 ⟨G3, ys, w3, s3, gD, hD3, da3, k3, n3⟩
    obtain ⟨w4, s4⟩ := w3.hold nDp nDl gD hD3
    have E2 : Ext p l G1 H1 (upd G3 D (.lst ys)) H3 := ⟨w4, s3.trans s4, fun b o n1 n2 q => k3 b o n1 n2 (ne_of_none q hD) q, fun b o q g => by
      rw [upd_ne (ne_of_none q hD)]
      exact n3 b o q g⟩
    rw [dx.length, List.length_map, List.take_length] at da3
    exact k _ _ _ _ E2 (.lst upd_same (da3.mono s4)) rfl
theorem tx_lcL {g : TG} {vs : List Nat} {α : Type} {ss : List α} {A B : α → PyData} (ha : TX K p l σ G ta (.list (ss.map A))) (hz : ss.length < sizeLine) (ht : ∀ s ∈ ss, Turn K p l σ G g te vs (A s) (B s)) : TX K p l σ G (tLc (iList K ta) g tYes te vs) (.list (ss.map B)) := fun G1 H Q W s k =>
  ha G1 H _ W s fun v d G2 H2 e da ff => by
    subst ff
    cases da with
    | @lst a xs _ t1 a1 =>
      refine ⟨a, rfl, ⟨xs, SqL.of (e.w.same _ _ t1)⟩, fun D hD => ?_⟩
      obtain ⟨Pv, h0, h1, h2, h3⟩ := tx_lc_core (σ := σ) (Q := Q) e.w (s.trans e.sub) a1 hz ht hD fun v d G3 H3 e3 => k v d G3 H3 (e.trans W e3)
      exact lc_list (Qd := Q (.ref D)) Pv h0 (fun i H hi q => let ⟨G3, w3, s3⟩ := h1 i H q; SqL.of (w3.same _ _ (s3 _ _ t1))) h2 h3
theorem tx_lcT {g : TG} {vs : List Nat} {α : Type} {ss : List α} {A B : α → PyData} (ha : TX K p l σ G ta (.tuple (ss.map A))) (hz : ss.length < sizeLine) (ht : ∀ s ∈ ss, Turn K p l σ G g te vs (A s) (B s)) : TX K p l σ G (tLc (iTup K ta) g tYes te vs) (.list (ss.map B)) := fun G1 H Q W s k =>
  ha G1 H _ W s fun v d G2 H2 e da ff => by
    subst ff
    obtain ⟨a, xs, rfl, t1, a1⟩ := da.tupI
    refine ⟨a, rfl, ⟨xs, sameT e.w.same t1⟩, fun D hD => ?_⟩
    obtain ⟨Pv, h0, h1, h2, h3⟩ := tx_lc_core (σ := σ) (Q := Q) e.w (s.trans e.sub) a1 hz ht hD fun v d G3 H3 e3 => k v d G3 H3 (e.trans W e3)
    exact lc_tup (Qd := Q (.ref D)) Pv h0 (fun i H hi q => let ⟨G3, w3, s3⟩ := h1 i H q; sameT (s3.trans w3.same) t1) h2 h3
theorem tx_ifS {z c : Str} {te : TE} (he : TX K p l σ G te (.str z)) (ha : z = c → TX K p l σ G ta d) (hb : z ≠ c → TX K p l σ G tb d) : TX K p l σ G (tIf (tTest (tOp rEq te (tC (.str c)))) ta tb) d := fun G1 H Q W s k =>
  he G1 H _ W s fun v d2 G2 H2 e da f => by
    subst f
    cases da
    refine ⟨rfl, _, rfl, ?_⟩
    rw [show decide (V.str z = V.str c) = decide (z = c) from decide_eq_decide.mpr ⟨fun h => by injection h, fun h => by rw [h]⟩]
    by_cases h : z = c
    · rw [decide_eq_true h]
      exact ha h G2 H2 Q e.w (s.trans e.sub) fun v d G3 H3 e3 dd f => k v d G3 H3 (e.trans W e3) dd f
    · rw [decide_eq_false h]
      exact hb h G2 H2 Q e.w (s.trans e.sub) fun v d G3 H3 e3 dd f => k v d G3 H3 (e.trans W e3) dd f
end
end L2.Hx

/-! The machines, plainly: where a new cell lies. -/
namespace L2.Hx
/-- the law's way: up past every held address that is not above -/
def newA (c : Int) (hs : List Int) : Int := hs.foldl (fun a h => if h ≤ a then a + 1 else a) (c + 1)
/-- the program's: how many held addresses lie below -/
def belowF (c : Int) : Nat → List Int → Nat
  | _, [] => 0
  | k, h :: t => if h - 1 - (k : Int) ≤ c then belowF c (k + 1) t + 1 else 0
theorem fold_stay : ∀ (hs : List Int) (a : Int), (∀ h ∈ hs, a < h) → hs.foldl (fun a h => if h ≤ a then a + 1 else a) a = a
  | [], a, _ => rfl
  | h :: t, a, hh => by
    have h1 := hh h List.mem_cons_self
    rw [List.foldl_cons, if_neg (by omega)]
    exact fold_stay t a fun x m => hh x (List.mem_cons_of_mem _ m)
theorem new_from (c : Int) : ∀ (hs : List Int) (k : Nat), hs.Pairwise (· < ·) → hs.foldl (fun a h => if h ≤ a then a + 1 else a) (c + 1 + (k : Int)) = c + 1 + ((k + belowF c k hs : Nat) : Int)
  | [], k, _ => rfl
  | h :: t, k, hp => by
    obtain ⟨h1, h2⟩ := List.pairwise_cons.mp hp
    rw [List.foldl_cons, belowF]
    by_cases z : h - 1 - (k : Int) ≤ c
    · rw [if_pos (by omega), if_pos z]
      have e := new_from c t (k + 1) h2
      rw [show c + 1 + (k : Int) + 1 = c + 1 + ((k + 1 : Nat) : Int) by omega, e]
      omega
    · rw [if_neg (by omega), if_neg z, fold_stay t _ fun x m => by have := h1 x m; omega]
      omega
/-- both ways lead to one address -/
theorem new_same (c : Int) {hs : List Int} (h : hs.Pairwise (· < ·)) : newA c hs = c + 1 + (belowF c 0 hs : Nat) := by
  have e := new_from c hs 0 h
  unfold newA
  rw [show c + 1 = c + 1 + ((0 : Nat) : Int) by omega, e, Nat.zero_add]
  omega
theorem below_le (c : Int) : ∀ (hs : List Int) (k : Nat), belowF c k hs ≤ hs.length
  | [], _ => Nat.le_refl _
  | h :: t, k => by
    rw [belowF, List.length_cons]
    have := below_le c t (k + 1)
    split
    · omega
    · omega
theorem below_yes (c : Int) : ∀ (hs : List Int) (k i : Nat) (h : Int), hs[i]? = some h → i < belowF c k hs → h - 1 - ((k + i : Nat) : Int) ≤ c
  | [], _, _, _, e, _ => by cases e
  | x :: t, k, i, h, e, l => by
    rw [belowF] at l
    by_cases z : x - 1 - (k : Int) ≤ c
    · rw [if_pos z] at l
      cases i with
      | zero =>
        rw [List.getElem?_cons_zero] at e
        cases e
        exact z
      | succ i =>
        rw [List.getElem?_cons_succ] at e
        have := below_yes c t (k + 1) i h e (by omega)
        rwa [show k + 1 + i = k + (i + 1) by omega] at this
    · rw [if_neg z] at l
      exact absurd l (Nat.not_lt_zero _)
theorem below_no (c : Int) : ∀ (hs : List Int) (k i : Nat) (h : Int), hs.Pairwise (· < ·) → hs[i]? = some h → belowF c k hs ≤ i → c < h - 1 - ((k + i : Nat) : Int)
  | [], _, _, _, _, e, _ => by cases e
  | x :: t, k, i, h, hp, e, l => by
    obtain ⟨h1, h2⟩ := List.pairwise_cons.mp hp
    rw [belowF] at l
    by_cases z : x - 1 - (k : Int) ≤ c
    · rw [if_pos z] at l
      cases i with
      | zero => exact absurd l (by omega)
      | succ i =>
        rw [List.getElem?_cons_succ] at e
        have := below_no c t (k + 1) i h h2 e (by omega)
        rwa [show k + 1 + i = k + (i + 1) by omega] at this
    · cases i with
      | zero =>
        rw [List.getElem?_cons_zero] at e
        cases e
        omega
      | succ i =>
        rw [List.getElem?_cons_succ] at e
        -- each further address lies at least one further on
        have far : ∀ (t : List Int) (x : Int) (i : Nat) (h : Int), (∀ y ∈ t, x < y) → t.Pairwise (· < ·) → t[i]? = some h → x + (i : Int) + 1 ≤ h := fun t => by
          induction t with
          | nil => intro x i h _ _ e; cases e
          | cons y t ih =>
            intro x i h hx hp e
            obtain ⟨p1, p2⟩ := List.pairwise_cons.mp hp
            cases i with
            | zero =>
              rw [List.getElem?_cons_zero] at e
              cases e
              have := hx _ List.mem_cons_self
              omega
            | succ i =>
              rw [List.getElem?_cons_succ] at e
              have a := ih y i h p1 p2 e
              have b := hx y List.mem_cons_self
              omega
        have := far t x i h h1 h2 e
        omega
/-- halving finds how many lie below: what is known of low and high -/
structure Half (c : Int) (hs : List Int) (low high : Nat) : Prop where
  le : low ≤ high
  hi : high ≤ hs.length
  lo : low ≤ belowF c 0 hs
  up : belowF c 0 hs ≤ high
theorem Half.start (c : Int) (hs : List Int) : Half c hs 0 hs.length := ⟨Nat.zero_le _, Nat.le_refl _, Nat.zero_le _, below_le c hs 0⟩
theorem Half.left {c : Int} {hs : List Int} {low high mid : Nat} {h : Int} (H : Half c hs low high) (hp : hs.Pairwise (· < ·)) (e : hs[mid]? = some h) (m1 : low ≤ mid) (m2 : mid < high) (z : h - 1 - (mid : Int) ≤ c) : Half c hs (mid + 1) high := by
  refine ⟨m2, H.hi, ?_, H.up⟩
  by_cases q : mid < belowF c 0 hs
  · exact q
  · have := below_no c hs 0 mid h hp e (by omega)
    rw [Nat.zero_add] at this
    omega
theorem Half.right {c : Int} {hs : List Int} {low high mid : Nat} {h : Int} (H : Half c hs low high) (e : hs[mid]? = some h) (m1 : low ≤ mid) (m2 : mid < high) (z : ¬ h - 1 - (mid : Int) ≤ c) : Half c hs low mid := by
  refine ⟨m1, by have := H.hi; omega, H.lo, ?_⟩
  by_cases q : mid < belowF c 0 hs
  · have := below_yes c hs 0 mid h e q
    rw [Nat.zero_add] at this
    exact absurd this z
  · omega
theorem Half.stop {c : Int} {hs : List Int} {low : Nat} (H : Half c hs low low) : low = belowF c 0 hs := Nat.le_antisymm H.lo H.up
/-- put in at its place, the new address keeps the order -/
theorem new_asc (c : Int) {hs : List Int} (hp : hs.Pairwise (· < ·)) (h0 : 0 ≤ c) : (hs.take (belowF c 0 hs) ++ (c + 1 + (belowF c 0 hs : Nat)) :: hs.drop (belowF c 0 hs)).Pairwise (· < ·) := by
  have e : hs = hs.take (belowF c 0 hs) ++ hs.drop (belowF c 0 hs) := (List.take_append_drop _ _).symm
  have hp' := hp
  rw [e] at hp'
  obtain ⟨p1, p2, p3⟩ := List.pairwise_append.mp hp'
  have below : ∀ x ∈ hs.take (belowF c 0 hs), x < c + 1 + (belowF c 0 hs : Nat) := fun x m => by
    obtain ⟨i, hi⟩ := List.mem_iff_getElem?.mp m
    have lt := (List.getElem?_eq_some_iff.mp hi).1
    rw [List.length_take] at lt
    rw [List.getElem?_take] at hi
    rw [if_pos (by omega)] at hi
    have := below_yes c hs 0 i x hi (by omega)
    rw [Nat.zero_add] at this
    omega
  have above : ∀ x ∈ hs.drop (belowF c 0 hs), c + 1 + (belowF c 0 hs : Nat) < x := fun x m => by
    obtain ⟨i, hi⟩ := List.mem_iff_getElem?.mp m
    rw [List.getElem?_drop] at hi
    have := below_no c hs 0 (belowF c 0 hs + i) x hp hi (by omega)
    rw [Nat.zero_add] at this
    omega
  refine List.pairwise_append.mpr ⟨p1, List.pairwise_cons.mpr ⟨above, p2⟩, fun x m y my => ?_⟩
  rcases List.mem_cons.mp my with rfl | my
  · exact below x m
  · exact p3 x m y my
/-- it is none of those held -/
theorem new_fresh (c : Int) {hs : List Int} (hp : hs.Pairwise (· < ·)) (h0 : 0 ≤ c) : ¬ (c + 1 + (belowF c 0 hs : Nat)) ∈ hs := by
  have h := new_asc c hp h0
  generalize c + 1 + (belowF c 0 hs : Nat) = x at h ⊢
  generalize belowF c 0 hs = n at h
  intro m
  obtain ⟨_, q2, q3⟩ := List.pairwise_append.mp h
  obtain ⟨q4, _⟩ := List.pairwise_cons.mp q2
  rw [← List.take_append_drop n hs] at m
  rcases List.mem_append.mp m with m | m
  · exact absurd (q3 _ m _ List.mem_cons_self) (Int.lt_irrefl _)
  · exact absurd (q4 _ m) (Int.lt_irrefl _)
end L2.Hx

/-! The plain machine: statements, frames, cells, one step. -/
namespace L2.Hx
open PySem PySem.Spec PyProof.Rows
inductive Ts where
  | any
  | look (is : Bool) (a b : Str)
def tsD : Ts → PyData
  | .any => .tuple [.str "any"]
  | .look is a b => .tuple [.str (if is then "is" else "isnt"), .str a, .str b]
inductive Op where
  | set (x a : Str)
  | new (x a : Str)
  | get (x a : Str)
  | put (a b : Str)
  | free (a : Str)
def opD : Op → PyData
  | .set x a => .tuple [.str "set", .str x, .str a]
  | .new x a => .tuple [.str "new", .str x, .str a]
  | .get x a => .tuple [.str "get", .str x, .str a]
  | .put a b => .tuple [.str "put", .str a, .str b]
  | .free a => .tuple [.str "free", .str a]
inductive Ss where
  | op (o : Op)
  | call (x f : Str) (as : List Str) (sp : PyData)
  | ite (t : Ts) (a b : List Ss)
  | whl (t : Ts) (k : PyData) (a : List Ss)
mutual
def ssD : Ss → PyData
  | .op o => opD o
  | .call x f as sp => .tuple [.str "call", .str x, .str f, .tuple (as.map .str), sp]
  | .ite t a b => .tuple [.str "if", tsD t, .tuple (slD a), .tuple (slD b)]
  | .whl t k a => .tuple [.str "while", tsD t, k, .tuple (slD a)]
def slD : List Ss → List PyData
  | [] => []
  | s :: r => ssD s :: slD r
end
theorem slD_map : ∀ ss : List Ss, slD ss = ss.map ssD
  | [] => by rw [slD]; rfl
  | s :: r => by rw [slD, slD_map r]; rfl
structure Fn where
  name : Str
  params : List Str
  spares : PyData
  wheres : List Str
  head : PyData
  foot : PyData
  body : List Ss
def fnD (f : Fn) : PyData := .tuple [.str f.name, .tuple (f.params.map .str), f.spares, .tuple (f.wheres.map .str), f.head, f.foot, .tuple (f.body.map ssD)]
def nsOf (f : Fn) : List Str := "nil" :: "result" :: (f.wheres ++ f.params)
abbrev Cells := List (Int × Int)
def getC (cs : Cells) (a : Int) : Option Int := cs.lookup a
def atC (cells : Cells) (c : Int) : Int := c + 1 + ((belowF c 0 (cells.map (·.1)) : Nat) : Int)
def insC (cells : Cells) (c v : Int) : Cells := cells.take (belowF c 0 (cells.map (·.1))) ++ (atC cells c, v) :: cells.drop (belowF c 0 (cells.map (·.1)))
def delC (cells : Cells) (a : Int) : Cells := cells.filter fun c => decide (c.1 ≠ a)
def putC (cells : Cells) (a v : Int) : Cells := cells.map fun c => if c.1 = a then (a, v) else c
/-- the next choice, 0 behind all -/
def nextC (cs : List Int) (n : Nat) : Int := cs.getD n 0
def nextN (cs : List Int) (n : Nat) : Nat := min (n + 1) cs.length
def upW (w : Str → Int) (x : Str) (v : Int) : Str → Int := fun y => if y = x then v else w y
structure Fr where
  name : Str
  ns : List Str
  wf : Str → Int
  todo : List (List Int × Ss)
  goal : Str
structure MSt where
  fs : List Fr
  cells : Cells
  n : Nat
  st : Int
inductive Res where
  | done (v : Int) (cells : Cells) (st : Int)
  | fault (name : Str) (way : List Int) (cells : Cells) (st : Int)
  | long
def cellsD (cs : Cells) : PyData := .tuple (cs.map fun c => .tuple [.int c.1, .int c.2])
def wayD (w : List Int) : PyData := .tuple (w.map .int)
def resD : Res → PyData
  | .done v cs st => .tuple [.str "done", .int v, cellsD cs, .int st]
  | .fault nm w cs st => .tuple [.str "fault", .str nm, wayD w, cellsD cs, .int st]
  | .long => .tuple [.str "long"]
def queF (way : List Int) : Nat → List Ss → List (List Int × Ss)
  | _, [] => []
  | i, s :: r => (way ++ [(i : Int)], s) :: queF way (i + 1) r
def holdsT (wf : Str → Int) (cs : List Int) (n : Nat) : Ts → Bool
  | .any => decide (nextC cs n % 2 = 1)
  | .look is a b => decide (wf a = wf b) == is
def turnT (cs : List Int) (n : Nat) : Ts → Nat
  | .any => nextN cs n
  | .look _ _ _ => n
/-- a plain statement: none if it faults -/
def doOp (cs : List Int) (wf : Str → Int) (cells : Cells) (n : Nat) : Op → Option ((Str → Int) × Cells × Nat)
  | .set x a => some (upW wf x (wf a), cells, n)
  | .new x a => some (upW wf x (atC cells (nextC cs n)), insC cells (nextC cs n) (wf a), nextN cs n)
  | .get x a => match getC cells (wf a) with
    | some v => some (upW wf x v, cells, n)
    | none => none
  | .put a b => match getC cells (wf a) with
    | some _ => some (wf, putC cells (wf a) (wf b), n)
    | none => none
  | .free a => match getC cells (wf a) with
    | some _ => some (wf, delC cells (wf a), n)
    | none => none
def wf0 (ps : List Str) (vs : List Int) : Str → Int := (ps.zip vs).foldl (fun w p => upW w p.1 p.2) fun _ => 0
def newFr (f : Fn) (vs : List Int) (goal : Str) : Fr := ⟨f.name, nsOf f, wf0 f.params vs, queF [] 0 f.body, goal⟩
def findF (fns : List Fn) (x : Str) : Option Fn := fns.find? fun f => decide (f.name = x)
def stepM (fns : List Fn) (cs : List Int) (lim : Int) (s : MSt) : MSt ⊕ Res :=
  match s.fs with
  | [] => .inr .long
  | f :: fs => match f.todo with
    | [] => match fs with
      | [] => .inr (.done (f.wf "result") s.cells s.st)
      | c :: fs => .inl { s with fs := { c with wf := upW c.wf f.goal (f.wf "result") } :: fs }
    | (way, own) :: td => if s.st = lim then .inr .long else match own with
      | .ite t a b => .inl ⟨{ f with todo := queF (way ++ [if holdsT f.wf cs s.n t then 0 else 1]) 0 (if holdsT f.wf cs s.n t then a else b) ++ td } :: fs, s.cells, turnT cs s.n t, s.st + 1⟩
      | .whl t k a => .inl ⟨{ f with todo := if holdsT f.wf cs s.n t then queF (way ++ [0]) 0 a ++ (way, .whl t k a) :: td else td } :: fs, s.cells, turnT cs s.n t, s.st + 1⟩
      | .call x g as _ => match findF fns g with
        | some fn => .inl ⟨newFr fn (as.map f.wf) x :: { f with todo := td } :: fs, s.cells, s.n, s.st + 1⟩
        | none => .inr .long
      | .op o => match doOp cs f.wf s.cells s.n o with
        | some (wf, cells, n) => .inl ⟨{ f with wf := wf, todo := td } :: fs, cells, n, s.st + 1⟩
        | none => .inr (.fault f.name way s.cells (s.st + 1))
def meas (lim : Int) (s : MSt) : Nat := 2 * (lim - s.st).toNat + s.fs.length
theorem step_less {fns : List Fn} {cs : List Int} {lim : Int} {s s2 : MSt} (h : stepM fns cs lim s = .inl s2) (hl : s.st ≤ lim) : meas lim s2 < meas lim s ∧ s2.st ≤ lim := by
  obtain ⟨fs, cells, n, st⟩ := s
  dsimp only at hl
  unfold stepM at h
  cases fs with
  | nil => cases h
  | cons f fs =>
    dsimp only at h
    cases ht : f.todo with
    | nil =>
      rw [ht] at h
      cases fs with
      | nil => cases h
      | cons c fs =>
        cases h
        unfold meas
        dsimp only [List.length_cons]
        exact ⟨by omega, hl⟩
    | cons p td =>
      obtain ⟨way, own⟩ := p
      rw [ht] at h
      dsimp only at h
      by_cases z : st = lim
      · rw [if_pos z] at h
        cases h
      · rw [if_neg z] at h
        have k1 : 2 * (lim - (st + 1)).toNat + 2 = 2 * (lim - st).toNat := by omega
        have k2 : st + 1 ≤ lim := by omega
        cases own with
        | ite t a b =>
          cases h
          unfold meas
          dsimp only [List.length_cons]
          exact ⟨by omega, k2⟩
        | whl t k a =>
          cases h
          unfold meas
          dsimp only [List.length_cons]
          exact ⟨by omega, k2⟩
        | call x g as sp =>
          dsimp only at h
          cases hf : findF fns g with
          | none =>
            rw [hf] at h
            cases h
          | some fn =>
            rw [hf] at h
            cases h
            unfold meas
            dsimp only [List.length_cons]
            exact ⟨by omega, k2⟩
        | op o =>
          dsimp only at h
          cases hd : doOp cs f.wf cells n o with
          | none =>
            rw [hd] at h
            cases h
          | some r =>
            obtain ⟨wf, cells2, n2⟩ := r
            rw [hd] at h
            cases h
            unfold meas
            dsimp only [List.length_cons]
            exact ⟨by omega, k2⟩
/-- what comes of a state, so many turns told -/
def comesF (fns : List Fn) (cs : List Int) (lim : Int) : Nat → MSt → Res
  | 0, _ => .long
  | k + 1, s => match stepM fns cs lim s with
    | .inl s2 => comesF fns cs lim k s2
    | .inr r => r
theorem comes_more {fns : List Fn} {cs : List Int} {lim : Int} : ∀ {k : Nat} {s : MSt}, s.st ≤ lim → meas lim s < k → comesF fns cs lim k s = comesF fns cs lim (meas lim s + 1) s
  | 0, s, _, h => absurd h (Nat.not_lt_zero _)
  | k + 1, s, hl, h => by
    rw [comesF, comesF]
    cases e : stepM fns cs lim s with
    | inr r => rfl
    | inl s2 =>
      obtain ⟨a, b⟩ := step_less e hl
      show comesF fns cs lim k s2 = comesF fns cs lim (meas lim s) s2
      rw [comes_more b (by omega), comes_more (k := meas lim s) b a]
def runM (fns : List Fn) (cs : List Int) (lim : Int) (s : MSt) : Res := comesF fns cs lim (meas lim s + 1) s
theorem runM_go {fns : List Fn} {cs : List Int} {lim : Int} {s s2 : MSt} (hl : s.st ≤ lim) (e : stepM fns cs lim s = .inl s2) : runM fns cs lim s = runM fns cs lim s2 := by
  obtain ⟨a, b⟩ := step_less e hl
  unfold runM
  rw [comesF, e]
  exact comes_more b a
theorem runM_end {fns : List Fn} {cs : List Int} {lim : Int} {s : MSt} {r : Res} (e : stepM fns cs lim s = .inr r) : runM fns cs lim s = r := by
  unfold runM
  rw [comesF, e]
end L2.Hx

/-! The program's Ground: cells, choices, steps. -/
namespace L2.Hx
open PySem PySem.Spec PyProof.Rows
theorem iteD {c A B : Prop} [Decidable c] (h1 : c → A) (h2 : ¬ c → B) : if decide c = true then A else B := by
  by_cases h : c
  · rw [decide_eq_true h]
    exact h1 h
  · rw [decide_eq_false h]
    exact h2 h
abbrev gAt : List Str := ["cells", "held", "choices", "chosen", "limit", "steps"]
/-- the attributes of a Ground -/
def gF (d L ch : Addr) (n : Nat) (lim st : Int) : List (Str × V) := [("cells", .ref d), ("held", .ref L), ("choices", .ref ch), ("chosen", .int (n : Int)), ("limit", .int lim), ("steps", .int st)]
theorem gF_cells {d L ch : Addr} {n : Nat} {lim st : Int} : (gF d L ch n lim st).lookup ("cells" : Str) = some (V.ref d) := rfl
theorem gF_held {d L ch : Addr} {n : Nat} {lim st : Int} : (gF d L ch n lim st).lookup ("held" : Str) = some (V.ref L) := rfl
theorem gF_choices {d L ch : Addr} {n : Nat} {lim st : Int} : (gF d L ch n lim st).lookup ("choices" : Str) = some (V.ref ch) := rfl
theorem gF_chosen {d L ch : Addr} {n : Nat} {lim st : Int} : (gF d L ch n lim st).lookup ("chosen" : Str) = some (V.int (n : Int)) := rfl
theorem gF_limit {d L ch : Addr} {n : Nat} {lim st : Int} : (gF d L ch n lim st).lookup ("limit" : Str) = some (V.int lim) := rfl
theorem gF_steps {d L ch : Addr} {n : Nat} {lim st : Int} : (gF d L ch n lim st).lookup ("steps" : Str) = some (V.int st) := rfl
theorem gF_put_steps {d L ch : Addr} {n : Nat} {lim st z : Int} : putF "steps" (.int z) (gF d L ch n lim st) = gF d L ch n lim z := rfl
theorem gF_put_chosen {d L ch : Addr} {n k : Nat} {lim st : Int} : putF "chosen" (.int (k : Int)) (gF d L ch n lim st) = gF d L ch k lim st := rfl
/-- a Ground stands at g: its dict, its list, its choices -/
structure GrAt (K : PySem.W.Frag) (C : Addr) (H : Hp) (g d L ch : Addr) (cells : Cells) (cs : List Int) (n : Nat) (lim st : Int) : Prop where
  ob : ∃ dx, H g = some (.ins C dx (gF d L ch n lim st))
  dc : ∃ kvs : List (Key × V), H d = some (.dK kvs) ∧ (kvs.map (·.1)).Nodup ∧ (∀ a : Int, valV kvs (Sum.inl a : Key) = (getC cells a).map V.int) ∧ kvs.length = cells.length
  hl : H L = some (.lst (cells.map fun c => V.int c.1))
  ch_ : SqT K H ch (cs.map V.int)
  asc : (cells.map (·.1)).Pairwise (· < ·)
  few : cells.length ≤ 100000 ∧ cs.length ≤ 100000
  nn : n ≤ cs.length
/-- nothing else is touched -/
def Apart (g d L : Addr) (H H' : Hp) : Prop := ∀ b o, b ≠ g → b ≠ d → b ≠ L → H b = some o → H' b = some o
def spStep (K : PySem.W.Frag) (C : Addr) : Sp := fun vs H Q _ => ∃ (g d L ch : Addr) (cells : Cells) (cs : List Int) (n : Nat) (lim st : Int), vs = [.ref g] ∧ GrAt K C H g d L ch cells cs n lim st ∧
  (st = lim → Q (.bl false) H) ∧ (st ≠ lim → ∀ H', GrAt K C H' g d L ch cells cs n lim (st + 1) → Apart g d L H H' → Q (.bl true) H')
def spChoose (K : PySem.W.Frag) (C : Addr) : Sp := fun vs H Q _ => ∃ (g d L ch : Addr) (cells : Cells) (cs : List Int) (n : Nat) (lim st : Int), vs = [.ref g] ∧ GrAt K C H g d L ch cells cs n lim st ∧
  ∀ H', GrAt K C H' g d L ch cells cs (nextN cs n) lim st → Apart g d L H H' → Q (.int (nextC cs n)) H'
def spBelow (K : PySem.W.Frag) (C : Addr) : Sp := fun vs H Q _ => ∃ (g d L ch : Addr) (cells : Cells) (cs : List Int) (n : Nat) (lim st c : Int), vs = [.ref g, .int c] ∧ GrAt K C H g d L ch cells cs n lim st ∧ Q (.int ((belowF c 0 (cells.map (·.1)) : Nat) : Int)) H
section
variable {P : Program} {w : World} {K : PySem.W.Frag} {mg : Str → Option Value} {base : Heap} {C : Addr}
theorem GrAt.put {H : Hp} {g d L ch : Addr} {cells : Cells} {cs : List Int} {n k : Nat} {lim st z : Int} {dx : Addr} (G : GrAt K C H g d L ch cells cs n lim st) (hk : k ≤ cs.length) : GrAt K C (upd H g (.ins C dx (gF d L ch k lim z))) g d L ch cells cs k lim z := by
  obtain ⟨⟨dy, h1⟩, ⟨kvs, h2, nd, h3⟩, h4, h5, h6, h7, h8⟩ := G
  have ngd : d ≠ g := fun e => by rw [e, h1] at h2; cases h2
  have ngL : L ≠ g := fun e => by rw [e, h1] at h4; cases h4
  refine ⟨⟨dx, upd_same⟩, ⟨kvs, by rw [upd_ne ngd]; exact h2, nd, h3⟩, by rw [upd_ne ngL]; exact h4, ?_, h6, h7, hk⟩
  rcases h5 with (q | ⟨o, q⟩) | q
  · exact .inl (.inl (by rw [upd_ne (fun e => by rw [e, h1] at q; cases q)]; exact q))
  · exact .inl (.inr ⟨o, by rw [upd_ne (fun e => by rw [e, h1] at q; cases q)]; exact q⟩)
  · exact .inr q
theorem D_step (k : ClsT K mg "Ground" gAt C) (S : ∃ f fd, SrcM K C "count_step" "Ground.count_step" s_Ground_count_step ["self"] f fd) : DfM P w K mg base 1 C "count_step" ["self"] (spStep K C) := by
  obtain ⟨f, fd, S⟩ := S
  refine DfM.mk' (k := 0) S sc_Ground_count_step (fun vs H Q E h => ?_) (fun cdv A outer s H vs Q E hgd hr h => ?_)
  · obtain ⟨g, d, L, ch, cells, cs, n, lim, st, rfl, _⟩ := h
    rfl
  · obtain ⟨g, d, L, ch, cells, cs, n, lim, st, rfl, G, kn, ky⟩ := h
    obtain ⟨dx, h1⟩ := G.ob
    refine ⟨_, (pss_cons (ps_if (pt_cmpR op_eq (pe_fld (pv 0) rfl) (pe_fld (pv 0) rfl) (nomark _)) (pss_one (ps_ret pe_bl)) pss_nil)
      (pss_cons (ps_fldaug (pv 0) pe_int in_add)
      (pss_one (ps_ret pe_bl)))), ?_⟩
    refine ⟨_, rfl, g, C, dx, _, _, rfl, h1, k.cl, k.no.get (by decide), gF_steps, _, rfl, g, C, dx, _, _, rfl, h1, k.cl, k.no.get (by decide), gF_limit, rfl, _, rfl, ?_⟩
    rw [show decide (V.int st = V.int lim) = decide (st = lim) from decide_eq_decide.mpr ⟨fun h => by injection h, fun h => by rw [h]⟩]
    refine iteD (fun e => kn e) (fun e => ?_)
    refine ⟨_, rfl, g, C, dx, _, _, rfl, h1, k.cl, k.no.get (by decide), gF_steps, _, _, rfl, rfl, dx, _, h1, by show 6 < 1000; decide, ?_⟩
    exact ky e _ (by rw [gF_put_steps]; exact G.put G.nn) fun b o n1 _ _ q => by rw [upd_ne n1]; exact q
theorem D_choose (T : Txt K mg) (k : ClsT K mg "Ground" gAt C) (S : ∃ f fd, SrcM K C "choose" "Ground.choose" s_Ground_choose ["self"] f fd) : DfM P w K mg base 1 C "choose" ["self"] (spChoose K C) := by
  obtain ⟨f, fd, S⟩ := S
  refine DfM.mk' (k := 0) S sc_Ground_choose (fun vs H Q E h => ?_) (fun cdv A outer s H vs Q E hgd hr h => ?_)
  · obtain ⟨g, d, L, ch, cells, cs, n, lim, st, rfl, _⟩ := h
    rfl
  · obtain ⟨g, d, L, ch, cells, cs, n, lim, st, rfl, G, kk⟩ := h
    obtain ⟨dx, h1⟩ := G.ob
    have hn := G.nn
    have nx : nextN cs n = min (n + 1) cs.length := rfl
    refine ⟨_, (pss_cons (ps_if (pt_cmpR op_eq (pe_fld (pv 0) rfl) (pe_callB call_len_seq (by rfl) T.b_len (by decide +kernel) (pa_cons (pe_fld (pv 0) rfl) pa_nil)) (nomark _)) (pss_one (ps_ret pe_int)) pss_nil)
      (pss_cons (ps_fldaug (pv 0) pe_int in_add)
      (pss_one (ps_ret (pe_ix ix_tup (pe_fld (pv 0) rfl) (pe_op op_sub (pe_fld (pv 0) rfl) pe_int) (fun _ _ => rfl)))))), ?_⟩
    refine ⟨_, rfl, g, C, dx, _, _, rfl, h1, k.cl, k.no.get (by decide), gF_chosen, _, rfl, g, C, dx, _, _, rfl, h1, k.cl, k.no.get (by decide), gF_choices, ch, _, rfl, .inr G.ch_, rfl, _, rfl, ?_⟩
    rw [show decide (V.int (n : Int) = V.int (((cs.map V.int).length : Nat) : Int)) = decide (n = cs.length) from decide_eq_decide.mpr ⟨fun h => by injection h with h; rw [List.length_map] at h; omega, fun h => by rw [h, List.length_map]⟩]
    refine iteD (fun e => ?_) (fun e => ?_)
    · have h0 : nextC cs n = 0 := by
        unfold nextC
        rw [List.getD_eq_getElem?_getD, List.getElem?_eq_none (by omega)]
        rfl
      have hm : nextN cs n = n := by omega
      have q := kk H (by rw [hm]; exact G) fun b o _ _ _ q => q
      rw [h0] at q
      exact q
    · refine ⟨_, rfl, g, C, dx, _, _, rfl, h1, k.cl, k.no.get (by decide), gF_chosen, _, _, rfl, rfl, dx, _, h1, by show 6 < 1000; decide, ?_⟩
      rw [show (V.int ((n : Int) + 1)) = V.int (((n + 1 : Nat)) : Int) from rfl, gF_put_chosen]
      have G2 := G.put (dx := dx) (k := n + 1) (z := st) (by omega)
      refine ⟨_, rfl, g, C, dx, _, _, rfl, upd_same, k.cl, k.no.get (by decide), gF_choices, _, rfl, g, C, dx, _, _, rfl, upd_same, k.cl, k.no.get (by decide), gF_chosen, _, _, rfl, rfl, ch, _, _, .int (nextC cs n), rfl, rfl, G2.ch_, ?_, ?_⟩
      · unfold atI ixN
        rw [List.length_map, show ((n + 1 : Nat) : Int) - 1 = (n : Int) by omega, if_pos (by omega), if_pos (by omega)]
        show (cs.map V.int)[n]? = _
        unfold nextC
        rw [List.getElem?_map, List.getElem?_eq_getElem (show n < cs.length by omega), List.getD_eq_getElem?_getD, List.getElem?_eq_getElem (show n < cs.length by omega)]
        rfl
      · exact kk _ (by rw [show nextN cs n = n + 1 by omega]; exact G2) fun b o n1 _ _ q => by rw [upd_ne n1]; exact q
theorem D_below (T : Txt K mg) (k : ClsT K mg "Ground" gAt C) (S : ∃ f fd, SrcM K C "held_below" "Ground.held_below" s_Ground_held_below ["self", "choice"] f fd) : DfM P w K mg base 1 C "held_below" ["self", "choice"] (spBelow K C) := by
  obtain ⟨f, fd, S⟩ := S
  refine DfM.mk' (k := 0) S sc_Ground_held_below (fun vs H Q E h => ?_) (fun cdv A outer s H vs Q E hgd hr h => ?_)
  · obtain ⟨g, d, L, ch, cells, cs, n, lim, st, c, rfl, _⟩ := h
    rfl
  · obtain ⟨g, d, L, ch, cells, cs, n, lim, st, c, rfl, G, q⟩ := h
    obtain ⟨dx, h1⟩ := G.ob
    have hp := G.asc
    refine ⟨_, (pss_cons (ps_par (i := 2) (j := 3) (by rfl) sc_Ground_held_below.nd rfl rfl (by decide) rfl rfl (pa_cons pe_int (pa_cons (pe_callB call_len_seq (by rfl) T.b_len (by decide +kernel) (pa_cons (pe_fld (pv 0) rfl) pa_nil)) pa_nil)) (by rfl))
      (pss_cons (ps_while PassesOwn.never (pt_cmpR op_lt (pv 2) (pv 3) (nomark _)) (pss_cons (ps_set (i := 4) sc_Ground_held_below.nd rfl (.inl rfl) (pe_op op_fdiv (pe_op op_add (pv 2) (pv 3)) pe_int))
      (pss_one (ps_if (pt_cmpR op_le (pe_op op_sub (pe_op op_sub (pe_ix ix_list (pe_fld (pv 0) rfl) (pv 4) (fun _ _ => rfl)) pe_int) (pv 4)) (pv 1) (nomark _)) (pss_one (ps_set (i := 2) sc_Ground_held_below.nd rfl (.inl rfl) (pe_op op_add (pv 4) pe_int))) (pss_one (ps_set (i := 3) sc_Ground_held_below.nd rfl (.inl rfl) (pv 4)))))))
      (pss_one (ps_ret (pv 2))))), ?_⟩
    have hlen : (cells.map fun c => V.int c.1).length = (cells.map (·.1)).length := by rw [List.length_map, List.length_map]
    refine ⟨_, rfl, g, C, dx, _, _, rfl, h1, k.cl, k.no.get (by decide), gF_held, L, _, rfl, .inl (SqL.of G.hl), _, _, rfl, ?_⟩
    rw [hlen]
    dsimp only [List.set]
    have few := G.few.1
    generalize hhs : cells.map (·.1) = hs at hp q ⊢
    have hget : ∀ i x, hs[i]? = some x → (cells.map fun c => V.int c.1)[i]? = some (V.int x) := fun i x e => by
      rw [← hhs, List.getElem?_map] at e
      obtain ⟨y, hy, rfl⟩ := Option.map_eq_some_iff.mp e
      rw [List.getElem?_map, hy]
      rfl
    refine ⟨fun m σ' H' => ∃ (low high : Nat) (o4 : Option V), σ' = [some (.ref g), some (.int c), some (.int (low : Int)), some (.int (high : Int)), o4] ∧ H' = H ∧ Half c hs low high ∧ m = high - low, ⟨_, 0, hs.length, _, rfl, rfl, Half.start c hs, rfl⟩, ?_⟩
    rintro m σ' H' ⟨low, high, o4, rfl, rfl, hh, rfl⟩
    refine ⟨_, rfl, _, rfl, _, _, rfl, rfl, _, rfl, ?_⟩
    refine iteD (fun hlt => ?_) (fun hge => ?_)
    · have hlt : low < high := by omega
      refine ⟨fun σ2 H2 => ∃ (low2 high2 : Nat) (o4 : Option V), σ2 = [some (.ref g), some (.int c), some (.int (low2 : Int)), some (.int (high2 : Int)), o4] ∧ H2 = H' ∧ Half c hs low2 high2 ∧ high2 - low2 < high - low, fun σ2 H2 ⟨l2, h2, o4, e1, e2, hf, lt⟩ => ⟨h2 - l2, lt, l2, h2, o4, e1, e2, hf, rfl⟩, ?_⟩
      have hm : ((low : Int) + (high : Int)) / 2 = (((low + high) / 2 : Nat) : Int) := by omega
      refine ⟨_, rfl, _, rfl, _, _, rfl, rfl, _, _, rfl, rfl, ⟨by decide, by decide⟩, ?_⟩
      dsimp only [gName, List.set]
      rw [hm]
      have m1 : low ≤ (low + high) / 2 := by omega
      have m2 : (low + high) / 2 < high := by omega
      generalize (low + high) / 2 = mid at m1 m2
      have hl2 := hh.hi
      obtain ⟨x, hx⟩ : ∃ x, hs[mid]? = some x := ⟨_, List.getElem?_eq_getElem (by omega)⟩
      have hi : atI (cells.map fun c => V.int c.1) (mid : Int) = some (V.int x) := by
        unfold atI ixN
        rw [hlen, hhs, if_pos (by omega), if_pos (by omega)]
        show (cells.map fun c => V.int c.1)[mid]? = _
        exact hget mid x hx
      refine ⟨_, rfl, g, C, dx, _, _, rfl, h1, k.cl, k.no.get (by decide), gF_held, _, rfl, L, _, _, _, rfl, rfl, SqL.of G.hl, hi, _, _, rfl, rfl, _, rfl, _, _, rfl, rfl, _, rfl, _, _, rfl, rfl, _, rfl, ?_⟩
      refine iteD (fun z => ?_) (fun z => ?_)
      · exact ⟨_, rfl, _, _, rfl, rfl, mid + 1, high, _, rfl, rfl, hh.left hp hx m1 m2 z, by omega⟩
      · exact ⟨_, rfl, low, mid, _, rfl, rfl, hh.right hx m1 m2 z, by omega⟩
    · have e : low = high := by have := hh.le; omega
      subst e
      rw [hh.stop]
      exact ⟨_, rfl, q⟩
end
end L2.Hx

/-! A new cell. -/
namespace L2.Hx
open PySem PySem.Spec PyProof.Rows
theorem getC_cons (p : Int × Int) (cs : Cells) (a : Int) : getC (p :: cs) a = if a = p.1 then some p.2 else getC cs a := by
  unfold getC
  obtain ⟨x, y⟩ := p
  rw [List.lookup_cons]
  by_cases h : a = x
  · rw [h, beq_self_eq_true, if_pos rfl]
  · rw [beq_false_of_ne h, if_neg h]
theorem getC_append (xs ys : Cells) (a : Int) : getC (xs ++ ys) a = (getC xs a).or (getC ys a) := by
  induction xs with
  | nil => rfl
  | cons p xs ih =>
    rw [List.cons_append, getC_cons, getC_cons, ih]
    by_cases h : a = p.1
    · rw [if_pos h, if_pos h]
      rfl
    · rw [if_neg h, if_neg h]
theorem getC_none {cs : Cells} {a : Int} (h : ¬ a ∈ cs.map (·.1)) : getC cs a = none := by
  induction cs with
  | nil => rfl
  | cons p cs ih =>
    rw [List.map_cons] at h
    rw [getC_cons, if_neg (fun e => h (by rw [e]; exact List.mem_cons_self)), ih fun m => h (List.mem_cons_of_mem _ m)]
theorem getC_ins {cells : Cells} {c v : Int} (hp : (cells.map (·.1)).Pairwise (· < ·)) (h0 : 0 ≤ c) (a : Int) : getC (insC cells c v) a = if a = atC cells c then some v else getC cells a := by
  have fresh := new_fresh c hp h0
  have e : getC cells a = (getC (cells.take (belowF c 0 (cells.map (·.1)))) a).or (getC (cells.drop (belowF c 0 (cells.map (·.1)))) a) := by
    rw [← getC_append, List.take_append_drop]
  unfold insC
  rw [getC_append, getC_cons]
  by_cases h : a = atC cells c
  · rw [if_pos h, if_pos h, getC_none (fun m => by
      rw [List.map_take] at m
      rw [h] at m
      exact fresh (List.mem_of_mem_take m))]
    rfl
  · rw [if_neg h, if_neg h, e]
theorem ins_keys (cells : Cells) (c v : Int) : (insC cells c v).map (·.1) = (cells.map (·.1)).take (belowF c 0 (cells.map (·.1))) ++ atC cells c :: (cells.map (·.1)).drop (belowF c 0 (cells.map (·.1))) := by
  unfold insC
  rw [List.map_append, List.map_cons, List.map_take, List.map_drop]
theorem ins_len (cells : Cells) (c v : Int) : (insC cells c v).length = cells.length + 1 := by
  unfold insC
  rw [List.length_append, List.length_cons, List.length_take, List.length_drop]
  have := below_le c (cells.map (·.1)) 0
  rw [List.length_map] at this
  omega
def spMake (K : PySem.W.Frag) (C : Addr) : Sp := fun vs H Q _ => ∃ (g d L ch : Addr) (cells : Cells) (cs : List Int) (n : Nat) (lim st v : Int), vs = [.ref g, .int v] ∧ GrAt K C H g d L ch cells cs n lim st ∧ (∀ c ∈ cs, 0 ≤ c) ∧ cells.length < 100000 ∧
  ∀ H', GrAt K C H' g d L ch (insC cells (nextC cs n) v) cs (nextN cs n) lim st → Apart g d L H H' → Q (.int (atC cells (nextC cs n))) H'
section
variable {P : Program} {w : World} {K : PySem.W.Frag} {mg : Str → Option Value} {base : Heap} {C : Addr}
theorem D_make (T : Txt K mg) (kGround : ClsT K mg "Ground" gAt C) (S : ∃ f fd, SrcM K C "make" "Ground.make" s_Ground_make ["self", "value"] f fd) (S1 : ∃ f fd, SrcM K C "choose" "Ground.choose" s_Ground_choose ["self"] f fd) (S2 : ∃ f fd, SrcM K C "held_below" "Ground.held_below" s_Ground_held_below ["self", "choice"] f fd) : DfM P w K mg base 2 C "make" ["self", "value"] (spMake K C) := by
  have D_Ground_choose := D_choose (P := P) (w := w) (base := base) T kGround S1
  have D_Ground_held_below := D_below (P := P) (w := w) (base := base) T kGround S2
  obtain ⟨f, fd, S⟩ := S
  refine DfM.mk' (k := 1) S sc_Ground_make (fun vs H Q E h => ?_) (fun cdv A outer s H vs Q E hgd hr h => ?_)
  · obtain ⟨g, d, L, ch, cells, cs, n, lim, st, v, rfl, _⟩ := h
    rfl
  · obtain ⟨g, d, L, ch, cells, cs, n, lim, st, v, rfl, G, hpos, hfew, kk⟩ := h
    obtain ⟨dx, h1⟩ := G.ob
    have hu := hu_of hr
    have big : (300000 : Nat) ≤ sizeLine := by decide
    refine ⟨_, (pss_cons (ps_set (i := 2) sc_Ground_make.nd rfl (.inl rfl) (pe_m0 D_Ground_choose kGround.cl hgd hr (pv 0)))
      (pss_cons (ps_set (i := 3) sc_Ground_make.nd rfl (.inl rfl) (pe_m D_Ground_held_below kGround.cl hgd hr (pv 0) (pa_cons (pv 2) pa_nil)))
      (pss_cons (ps_set (i := 4) sc_Ground_make.nd rfl (.inl rfl) (pe_op op_add (pe_op op_add (pv 2) pe_int) (pv 3)))
      (pss_cons (ps_expr (pe_bm PySem.F.plainAttrs_list PySem.F.slot_list_insert PySem.F.type_list_insert mt_insert (pe_fld (pv 0) rfl) (pa_cons (pv 3) (pa_cons (pv 4) pa_nil))))
      (pss_cons (ps_dput hu (pe_fld (pv 0) rfl) (pv 4) (pv 1) rfl)
      (pss_one (ps_ret (pv 4)))))))), ?_⟩
    have h0 : 0 ≤ nextC cs n := by
      unfold nextC
      rw [List.getD_eq_getElem?_getD]
      cases e : cs[n]? with
      | none => exact Int.le_refl _
      | some c => exact hpos c (List.mem_of_getElem? e)
    refine ⟨_, rfl, g, dx, _, rfl, h1, rfl, g, d, L, ch, cells, cs, n, lim, st, rfl, G, fun H1 G1 a1 => ?_⟩
    generalize nextC cs n = c at kk h0 ⊢
    obtain ⟨dx1, h2⟩ := G1.ob
    dsimp only [gName, List.set]
    refine ⟨_, rfl, g, dx1, _, rfl, h2, rfl, _, rfl, g, d, L, ch, cells, cs, _, lim, st, c, rfl, G1, ?_⟩
    dsimp only [gName, List.set]
    refine ⟨_, rfl, _, _, rfl, rfl, _, rfl, _, _, rfl, rfl, ?_⟩
    dsimp only [gName, List.set]
    have hlen : (cells.map fun c => V.int c.1).length = cells.length := List.length_map _
    have bl := below_le c (cells.map (·.1)) 0
    rw [List.length_map] at bl
    refine ⟨_, rfl, g, C, dx1, _, _, rfl, h2, kGround.cl, kGround.no.get (by decide), gF_held, ?_⟩
    have ngd : d ≠ g := fun e => by
      obtain ⟨kvs, h4, _⟩ := G1.dc
      rw [e, h2] at h4
      cases h4
    have ngL : L ≠ g := fun e => by
      have h4 := G1.hl
      rw [e, h2] at h4
      cases h4
    have ndL : d ≠ L := fun e => by
      obtain ⟨kvs, h4, _⟩ := G1.dc
      have h5 := G1.hl
      rw [e, h5] at h4
      cases h4
    obtain ⟨kvs, hd, nd, hv, lk⟩ := G1.dc
    have hb : ((belowF c 0 (cells.map (·.1)) : Nat) : Int) < 2 ^ 63 := by
      have : (100000 : Int) < 2 ^ 63 := by decide
      omega
    refine ⟨.inl ⟨rfl, _, SqL.of G1.hl⟩, _, rfl, _, rfl, L, _, _, _, rfl, rfl, G1.hl, by rw [hlen]; omega, by omega, hb, ?_⟩
    rw [Int.toNat_natCast]
    have hkn : valV kvs (Sum.inl (atC cells c) : Key) = none := by
      rw [hv, getC_none (show ¬ atC cells c ∈ _ from new_fresh c G1.asc h0)]
      rfl
    have q1 : ∀ o, (upd H1 L o) g = some (.ins C dx1 (gF d L ch (nextN cs n) lim st)) := fun o => by rw [upd_ne ngL.symm]; exact h2
    have q2 : ∀ o, (upd H1 L o) d = some (.dK kvs) := fun o => by rw [upd_ne ndL]; exact hd
    refine ⟨_, rfl, _, rfl, g, C, dx1, _, _, rfl, q1 _, kGround.cl, kGround.no.get (by decide), gF_cells, _, rfl, d, _, rfl, DPut.k (k := Sum.inl (atC cells c)) (q2 _) (by omega), ?_⟩
    refine ⟨_, rfl, kk _ ?_ ?_⟩
    · refine ⟨⟨dx1, by rw [upd_ne ngd.symm]; exact q1 _⟩, ⟨_, upd_same, nd_putK _ nd hkn, fun a => ?_, by rw [putK_new _ hkn, List.length_append, lk, ins_len]; rfl⟩, ?_, ?_, ?_, ?_, G1.nn⟩
      · rw [valV_put, getC_ins G1.asc h0]
        by_cases z : a = atC cells c
        · rw [if_pos (by rw [z]), if_pos z]
          rfl
        · rw [if_neg (fun e => z (by injection e)), if_neg z]
          exact hv a
      · rw [upd_ne ndL.symm, upd_same]
        congr 2
        unfold insC
        rw [List.map_append, List.map_cons, List.map_take, List.map_drop]
        show _ ++ [_] ++ _ = _
        rw [List.append_assoc]
        rfl
      · rcases G1.ch_ with (q | ⟨o, q⟩) | q
        · exact .inl (.inl (by rw [upd_ne (fun e => by rw [e, hd] at q; cases q), upd_ne (fun e => by rw [e, G1.hl] at q; cases q)]; exact q))
        · exact .inl (.inr ⟨o, by rw [upd_ne (fun e => by rw [e, hd] at q; cases q), upd_ne (fun e => by rw [e, G1.hl] at q; cases q)]; exact q⟩)
        · exact .inr q
      · rw [ins_keys]
        exact new_asc c G1.asc h0
      · rw [ins_len]
        exact ⟨by omega, G1.few.2⟩
    · intro b o n1 n2 n3 q
      rw [upd_ne n2, upd_ne n3]
      exact a1 b o n1 n2 n3 q
end
end L2.Hx

/-! A cell freed. -/
namespace L2.Hx
open PySem PySem.Spec PyProof.Rows
theorem getC_del (cells : Cells) (a b : Int) : getC (delC cells a) b = if b = a then none else getC cells b := by
  induction cells with
  | nil => by_cases h : b = a <;> simp [delC, getC, h]
  | cons p cells ih =>
    unfold delC at ih ⊢
    by_cases h : p.1 = a
    · rw [List.filter_cons_of_neg (by simp [h]), ih, getC_cons]
      by_cases z : b = a
      · rw [if_pos z, if_pos z]
      · rw [if_neg z, if_neg z, if_neg (by rw [h]; exact z)]
    · rw [List.filter_cons_of_pos (by simp [h]), getC_cons, getC_cons, ih]
      by_cases z : b = p.1
      · rw [if_pos z, if_pos z, if_neg (by rw [z]; exact h)]
      · rw [if_neg z, if_neg z]
theorem del_erase : ∀ {cells : Cells} {a : Int} {j : Nat}, (cells.map (·.1)).Pairwise (· < ·) → (cells.map (·.1))[j]? = some a → (delC cells a).map (·.1) = (cells.map (·.1)).eraseIdx j ∧ (delC cells a).length + 1 = cells.length
  | [], _, _, _, e => by cases e
  | p :: cells, a, 0, h, e => by
    rw [List.map_cons, List.getElem?_cons_zero] at e
    cases e
    obtain ⟨h1, h2⟩ := List.pairwise_cons.mp h
    have all : delC cells p.1 = cells := by
      unfold delC
      refine List.filter_eq_self.mpr fun c m => ?_
      have : p.1 < c.1 := h1 c.1 (List.mem_map.mpr ⟨c, m, rfl⟩)
      exact decide_eq_true (by omega)
    have e : delC (p :: cells) p.1 = cells := by
      unfold delC
      rw [List.filter_cons_of_neg (by simp)]
      exact all
    rw [e, List.map_cons, List.eraseIdx_cons_zero]
    exact ⟨rfl, rfl⟩
  | p :: cells, a, j + 1, h, e => by
    rw [List.map_cons, List.getElem?_cons_succ] at e
    obtain ⟨h1, h2⟩ := List.pairwise_cons.mp h
    obtain ⟨q1, q2⟩ := del_erase h2 e
    have ne : p.1 ≠ a := fun z => by
      have : p.1 < a := h1 a (List.mem_of_getElem? e)
      omega
    have e2 : delC (p :: cells) a = p :: delC cells a := by
      unfold delC
      rw [List.filter_cons_of_pos (by simp [ne])]
    rw [e2, List.map_cons, List.map_cons, List.eraseIdx_cons_succ, q1, List.length_cons, List.length_cons]
    exact ⟨rfl, by omega⟩
theorem key_at {cells : Cells} {a v : Int} (h : getC cells a = some v) : a ∈ cells.map (·.1) := by
  by_cases m : a ∈ cells.map (·.1)
  · exact m
  · rw [getC_none m] at h
    cases h
theorem valV_cons {κ : Type} [DecidableEq κ] (p : κ × V) (r : List (κ × V)) (k : κ) : valV (p :: r) k = if p.1 = k then some p.2 else valV r k := by
  unfold valV
  rw [List.find?_cons]
  by_cases h : p.1 = k
  · rw [decide_eq_true h, if_pos h]
    rfl
  · rw [decide_eq_false h, if_neg h]
theorem valV_gone {kvs : List (Key × V)} {k : Key} (_ : (kvs.map (·.1)).Nodup) : valV (dropK kvs k) k = none := by
  induction kvs with
  | nil => rfl
  | cons p r ih =>
    by_cases h : p.1 = k
    · rw [dropK_pos h]
      exact ih (List.nodup_cons.mp (by assumption)).2
    · rw [dropK_neg h, valV_cons, if_neg h]
      exact ih (List.nodup_cons.mp (by assumption)).2
theorem valV_stay {kvs : List (Key × V)} {k j : Key} (n : j ≠ k) : valV (dropK kvs k) j = valV kvs j := by
  induction kvs with
  | nil => rfl
  | cons p r ih =>
    by_cases h : p.1 = k
    · rw [dropK_pos h, valV_cons, if_neg (fun e => n (by rw [← e, h]))]
      exact ih
    · rw [dropK_neg h, valV_cons, valV_cons, ih]
def spDrop (K : PySem.W.Frag) (C : Addr) : Sp := fun vs H Q _ => ∃ (g d L ch : Addr) (cells : Cells) (cs : List Int) (n : Nat) (lim st a v : Int), vs = [.ref g, .int a] ∧ GrAt K C H g d L ch cells cs n lim st ∧ getC cells a = some v ∧
  ∀ H', GrAt K C H' g d L ch (delC cells a) cs n lim st → Apart g d L H H' → Q .non H'
section
variable {P : Program} {w : World} {K : PySem.W.Frag} {mg : Str → Option Value} {base : Heap} {C : Addr}
theorem D_drop (T : Txt K mg) (kGround : ClsT K mg "Ground" gAt C) (S : ∃ f fd, SrcM K C "drop" "Ground.drop" s_Ground_drop ["self", "address"] f fd) : DfM P w K mg base 1 C "drop" ["self", "address"] (spDrop K C) := by
  obtain ⟨f, fd, S⟩ := S
  refine DfM.mk' (k := 0) S sc_Ground_drop (fun vs H Q E h => ?_) (fun cdv A outer s H vs Q E hgd hr h => ?_)
  · obtain ⟨g, d, L, ch, cells, cs, n, lim, st, a, v, rfl, _⟩ := h
    rfl
  · obtain ⟨g, d, L, ch, cells, cs, n, lim, st, a, v, rfl, G, hv, kk⟩ := h
    obtain ⟨dx, h1⟩ := G.ob
    have hu := hu_of hr
    refine ⟨_, (pss_cons (ps_expr (pe_bm PySem.F.plainAttrs_list PySem.F.slot_list_remove PySem.F.type_list_remove mt_remove (pe_fld (pv 0) rfl) (pa_cons (pv 1) pa_nil)))
      (pss_one (ps_ddel (pe_fld (pv 0) rfl) (pv 1)))), ?_⟩
    obtain ⟨kvs, hd, nd, hk, lk⟩ := G.dc
    have hl := G.hl
    rw [show (cells.map fun c => V.int c.1) = (cells.map (·.1)).map V.int by rw [List.map_map]; rfl] at hl
    obtain ⟨j, hj⟩ := List.mem_iff_getElem?.mp (key_at hv)
    have uniq : ∀ m : Nat, m < j → (cells.map (·.1))[m]? ≠ some a := fun m lt e => by
      obtain ⟨lm, em⟩ := List.getElem?_eq_some_iff.mp e
      obtain ⟨lj, ej⟩ := List.getElem?_eq_some_iff.mp hj
      have := List.pairwise_iff_getElem.mp G.asc m j lm lj lt
      omega
    refine ⟨_, rfl, g, C, dx, _, _, rfl, h1, kGround.cl, kGround.no.get (by decide), gF_held, .inl ⟨rfl, _, SqL.of G.hl⟩, _, rfl, L, _, a, j, rfl, rfl, hl, hj, uniq, ?_⟩
    have ngd : d ≠ g := fun e => by rw [e, h1] at hd; cases hd
    have ngL : L ≠ g := fun e => by
      have h4 := G.hl
      rw [e, h1] at h4
      cases h4
    have ndL : d ≠ L := fun e => by
      have h5 := G.hl
      rw [e, h5] at hd
      cases hd
    obtain ⟨r1, r2⟩ := del_erase G.asc hj
    refine ⟨_, rfl, g, C, dx, _, _, rfl, by rw [upd_ne ngL.symm]; exact h1, kGround.cl, kGround.no.get (by decide), gF_cells, _, rfl, d, kvs, Sum.inl a, rfl, by rw [upd_ne ndL]; exact hd, rfl, by rw [hk, hv]; rfl, ?_⟩
    have hin : (Sum.inl a : Key) ∈ kvs.map (·.1) := valV_in (v := .int v) (by rw [hk, hv]; rfl)
    refine kk _ ⟨⟨dx, by rw [upd_ne ngd.symm, upd_ne ngL.symm]; exact h1⟩, ⟨_, upd_same, nd_dropK nd, fun b => ?_, ?_⟩, ?_, ?_, ?_, ?_, G.nn⟩ ?_
    · rw [getC_del]
      by_cases z : b = a
      · rw [if_pos z, z]
        exact valV_gone nd
      · rw [if_neg z, ← hk]
        exact valV_stay (fun e => z (by injection e))
    · have := dropK_len nd hin
      omega
    · rw [upd_ne ndL.symm, upd_same, ← r1, List.map_map]
      rfl
    · rcases G.ch_ with (q | ⟨o, q⟩) | q
      · exact .inl (.inl (by rw [upd_ne (fun e => by rw [e, hd] at q; cases q), upd_ne (fun e => by rw [e, G.hl] at q; cases q)]; exact q))
      · exact .inl (.inr ⟨o, by rw [upd_ne (fun e => by rw [e, hd] at q; cases q), upd_ne (fun e => by rw [e, G.hl] at q; cases q)]; exact q⟩)
      · exact .inr q
    · rw [r1]
      exact G.asc.sublist (List.eraseIdx_sublist _ _)
    · exact ⟨by have := G.few.1; omega, G.few.2⟩
    · intro b o n1 n2 n3 q
      rw [upd_ne n2, upd_ne n3]
      exact q
end
end L2.Hx

/-! Comprehensions over any walk, the data told; what changes objects of one's own. -/
namespace L2.Hx
open PySem PySem.Spec PyProof.Rows
/-- from one state to a later one, where the objects O of one's own may be changed -/
structure ExtO (O : List Addr) (p l : Addr) (G H G' H' : Hp) : Prop where
  w : Wd p l G' H'
  sub : Same G G'
  keep : ∀ b o, b ≠ p → b ≠ l → b ∉ O → H b = some o → H' b = some o
  new : ∀ b o, H b = some o → G b = none → G' b = none
section
variable {O : List Addr} {p l : Addr} {G H G1 H1 G2 H2 : Hp}
theorem Ext.o (e : Ext p l G H G1 H1) : ExtO O p l G H G1 H1 := ⟨e.w, e.sub, fun b o n1 n2 _ q => e.keep b o n1 n2 q, e.new⟩
theorem ExtO.trans (a : ExtO O p l G H G1 H1) (b : ExtO O p l G1 H1 G2 H2) (hO : ∀ c ∈ O, G1 c = none → G2 c = none) : ExtO O p l G H G2 H2 :=
  ⟨b.w, a.sub.trans b.sub, fun c o n1 n2 n3 q => b.keep c o n1 n2 n3 (a.keep c o n1 n2 n3 q), fun c o q g => by
    have g1 := a.new c o q g
    by_cases n1 : c = p
    · subst n1; exact b.w.gp
    · by_cases n2 : c = l
      · subst n2; exact b.w.gl
      · by_cases n3 : c ∈ O
        · exact hO c n3 g1
        · exact b.new c o (a.keep c o n1 n2 n3 q) g1⟩
theorem ExtO.more {O2 : List Addr} (a : ExtO O p l G H G1 H1) (h : ∀ b ∈ O, b ∈ O2) : ExtO O2 p l G H G1 H1 := ⟨a.w, a.sub, fun b o n1 n2 n3 q => a.keep b o n1 n2 (fun m => n3 (h b m)) q, a.new⟩
/-- own objects that are new are nothing of the first state -/
theorem ExtO.ext (a : ExtO O p l G H G1 H1) (h : ∀ b ∈ O, H b = none) : Ext p l G H G1 H1 := ⟨a.w, a.sub, fun b o n1 n2 q => a.keep b o n1 n2 (fun m => by rw [h b m] at q; cases q) q, a.new⟩
/-- an object of one's own is changed -/
theorem ExtO.own (W : Wd p l G H) {b : Addr} {o : HO} (hb : b ∈ O) (hp : b ≠ p) (hl : b ≠ l) (hg : G b = none) : ExtO O p l G H G (upd H b o) :=
  ⟨W.own hp hl hg, Same.refl G, fun c u _ _ n q => by rw [upd_ne (fun e => n (by rw [e]; exact hb))]; exact q, fun c u _ g => g⟩
end
section
variable {K : PySem.W.Frag} {p l : Addr} {σ : St} {G : Hp} {te : TE} {g : TG} {vs : List Nat}
theorem tx_lcW {J : It} {n : Nat} {Gg : Hp → Prop} {Y : Nat → Hp → V → Hp → Prop} (w : Walk J n Gg Y) {ds : List PyData} (hl : ds.length = n) (hz : n < sizeLine) {G1 H1 : Hp} {Q : VK} {D : Addr} (W : Wd p l G1 H1)
    (hG : ∀ G3 H, Wd p l G3 H → Same G1 G3 → (∀ b o, b ≠ p → b ≠ l → H1 b = some o → H b = some o) → Gg H)
    (ht : ∀ i d x G3 H H' R, ds[i]? = some d → Wd p l G3 H → Same G1 G3 → (∀ b o, b ≠ p → b ≠ l → H1 b = some o → H b = some o) → Y i H x H' → (∀ v G4 H4, Ext p l G3 H G4 H4 → Da K G4 v d → R v H4) → g x (wipe σ vs) H' fun σ2 H2 => wipe σ2 vs = wipe σ vs ∧ te σ2 H2 R) (hD : H1 D = none)
    (k : ∀ v G2 H2, Ext p l G1 H1 G2 H2 → Da K G2 v (.list ds) → Q v H2) :
    ∃ W : Nat → Nat → Hp → Prop, (∃ m, W 0 m (upd H1 D (.lst []))) ∧ ∀ i m H, W i m H →
      (J.stop i H ∧ Q (.ref D) H) ∨ (J.go i H ∧ ∃ Nx : Hp → Prop, (∀ H', Nx H' → ∃ m', m' < m ∧ W (i + 1) m' H') ∧ ∀ x H', J.yld i H x H' → g x (wipe σ vs) H' fun σ2 H2 => wipe σ2 vs = wipe σ vs ∧ tYes σ2 H2 fun b H3 =>
        if b = true then te σ2 H3 fun y H4 => ∃ acc, H4 D = some (.lst acc) ∧ acc.length < sizeLine ∧ Nx (upd H4 D (.lst (acc ++ [y]))) else Nx H3) := by
  have nDp := W.np hD
  have nDl := W.nl hD
  have E1 := W.tmp (o := .lst []) hD
  refine lc_it (Qd := Q (.ref D)) w (fun i H3 => ∃ G3 ys, Wd p l G3 H3 ∧ Same G1 G3 ∧ G3 D = none ∧ H3 D = some (.lst ys) ∧ DaAll K G3 ys (ds.take i) ∧
        (∀ b o, b ≠ p → b ≠ l → b ≠ D → H1 b = some o → H3 b = some o) ∧ (∀ b o, H1 b = some o → G1 b = none → G3 b = none))
      ⟨G1, [], E1.w, Same.refl _, W.same.free hD, upd_same, .nil, fun b o n1 n2 n3 q => by rw [upd_ne n3]; exact q, fun b o _ g => g⟩ (fun i H _ ⟨G3, _, w3, s3, _, _, _, k3, _⟩ => hG G3 H w3 s3 fun b o n1 n2 q => k3 b o n1 n2 (ne_of_none q hD) q) ?_ ?_
  · rintro i x H3 H' hi ⟨G3, ys, w3, s3, gD, hD3, da3, k3, n3⟩ y
    have hd := List.getElem?_eq_getElem (show i < ds.length by omega)
    refine ht i _ x G3 H3 H' _ hd w3 s3 (fun b o n1 n2 q => k3 b o n1 n2 (ne_of_none q hD) q) y fun v G4 H4 e4 da4 => ?_
    have hD4 : H4 D = some (.lst ys) := e4.keep _ _ nDp nDl hD3
    have gD4 : G4 D = none := e4.new _ _ hD3 gD
    have hl2 := da3.length
    rw [List.length_take] at hl2
    refine ⟨ys, hD4, by omega, G4, ys ++ [v], e4.w.own nDp nDl gD4, s3.trans e4.sub, gD4, upd_same, ?_, fun b o n1 n2 n4 q => ?_, fun b o q g => ?_⟩
    · rw [List.take_succ, hd]
      exact (da3.mono e4.sub).append (.cons da4 .nil)
    · rw [upd_ne n4]
      exact e4.keep _ _ n1 n2 (k3 b o n1 n2 n4 q)
    · have g3 := n3 b o q g
      by_cases b1 : b = p
      · subst b1
        exact e4.w.gp
      · by_cases b2 : b = l
        · subst b2
          exact e4.w.gl
        · exact e4.new b o (k3 b o b1 b2 (ne_of_none q hD) q) g3
  · rintro H3 ⟨G3, ys, w3, s3, gD, hD3, da3, k3, n3⟩
    obtain ⟨w4, s4⟩ := w3.hold nDp nDl gD hD3
    have E2 : Ext p l G1 H1 (upd G3 D (.lst ys)) H3 := ⟨w4, s3.trans s4, fun b o n1 n2 q => k3 b o n1 n2 (ne_of_none q hD) q, fun b o q g => by
      rw [upd_ne (ne_of_none q hD)]
      exact n3 b o q g⟩
    rw [List.take_of_length_le (by omega)] at da3
    exact k _ _ _ E2 (.lst upd_same (da3.mono s4))
theorem walk_enumT2 {a : Addr} {xs : List V} : Walk (Iet K a) xs.length (fun H => SqT K H a xs) (YPair (fun i => some (.int (i : Nat))) (fun i => xs[i]?)) :=
  ⟨fun i H hi h => ⟨xs, xs[i], h, by simp [hi]⟩, fun H h => ⟨xs, h, Nat.le_refl _⟩, fun i H x H' hi h y => by
    obtain ⟨T, u, rfl, hT, rfl, f⟩ := y
    exact ⟨T, _, u, rfl, hT, rfl, rfl, f xs h⟩⟩
/-- [e for (i, x) in enumerate(t)] : what comes at each place is told -/
theorem tx_lcE {ta : TE} {as ds : List PyData} (ha : TX K p l σ G ta (.tuple as)) (hl : ds.length = as.length) (hz : as.length < sizeLine)
    (ht : ∀ (i : Nat) d u x T G3 H R, ds[i]? = some d → as[i]? = some u → Da K G3 x u → Wd p l G3 H → Same G G3 → H T = some (.tup [.int (i : Nat), x]) → (∀ v G4 H4, Ext p l G3 H G4 H4 → Da K G4 v d → R v H4) → g (.ref T) (wipe σ vs) H fun σ2 H2 => wipe σ2 vs = wipe σ vs ∧ te σ2 H2 R) :
    TX K p l σ G (tLc (iEnumT K (tCons ta tNil)) g tYes te vs) (.list ds) := fun G1 H Q W s k =>
  ha G1 H _ W s fun v d G2 H2 e da ff => by
    subst ff
    obtain ⟨a, xs, rfl, t1, a1⟩ := da.tupI
    have len := a1.length
    refine ⟨a, xs, rfl, sameT e.w.same t1, fun D hD => ?_⟩
    refine tx_lcW (walk_enumT2 (a := a) (xs := xs)) (by omega) (by omega) e.w (fun G3 H w3 s3 _ => sameT (s3.trans w3.same) t1) ?_ hD fun v G3 H3 e3 dd => k v _ G3 H3 (e.trans W e3) dd rfl
    rintro i d x G3 H3 H' R hd w3 s3 _ ⟨T, x1, u, rfl, hT, rfl, e1, e2⟩ kk
    cases e1
    obtain ⟨du, hu, dau⟩ := a1.get e2
    have e4 := w3.tmp (o := .tup [V.int (i : Nat), u]) hT
    refine ht i d du u T G3 (upd H3 T (.tup [V.int (i : Nat), u])) R hd hu (dau.mono s3) e4.w ((s.trans e.sub).trans s3) upd_same fun v G4 H4 e5 dd => kk v G4 H4 (e4.trans w3 e5) dd
end
end L2.Hx

/-! Worths; tests. -/
namespace L2.Hx
open PySem PySem.Spec PyProof.Rows
/-- a dict of worths: of these names, what they are worth -/
def WoAt (H : Hp) (wd : Addr) (ns : List Str) (wf : Str → Int) : Prop := ∃ kvs : List (Key × V), H wd = some (.dK kvs) ∧ kvs.length ≤ 1000 ∧ ∀ x ∈ ns, valV kvs (Sum.inr x : Key) = some (.int (wf x))
def spLooks (K : PySem.W.Frag) : Sp := fun vs H Q _ => ∃ (v : V) (wd : Addr) (G : Hp) (ns : List Str) (wf : Str → Int) (is : Bool) (a b : Str), vs = [v, .ref wd] ∧ Same G H ∧ Da K G v (.tuple [tsD (.look is a b)]) ∧ WoAt H wd ns wf ∧ a ∈ ns ∧ b ∈ ns ∧ Q (.bl (decide (wf a = wf b) == is)) H
section
variable {P : Program} {w : World} {K : PySem.W.Frag} {mg : Str → Option Value} {base : Heap} {C : Addr}
theorem D_looks (T : Txt K mg) : Df P w K mg base 1 "looks_hold" ["looks", "values"] (spLooks K) := by
  obtain ⟨f, fd, S⟩ := T.d_looks_hold
  refine Df.mk' (k := 0) S sc_looks_hold (fun vs H Q E h => ?_) (fun cdv A outer s H vs Q E hgd hr h => ?_)
  · obtain ⟨v, wd, G, ns, wf, is, a, b, rfl, _⟩ := h
    rfl
  · obtain ⟨v, wd, G, ns, wf, is, a, b, rfl, sm, dv, ⟨kvs, hw, hk, hv⟩, ma, mb, q⟩ := h
    have hu := hu_of hr
    refine ⟨_, (pss_cons (ps_for PassesOwn.never rfl (pi_tup (pv 0)) (pg_tup rfl (pgs_cons (pg_name (i := 2) sc_looks_hold.nd rfl (.inl rfl)) (pgs_cons (pg_name (i := 3) sc_looks_hold.nd rfl (.inl rfl)) (pgs_cons (pg_name (i := 4) sc_looks_hold.nd rfl (.inl rfl)) pgs_nil))))
      (pss_one (ps_if (pt_cmpR op_ne (pe_cmpR op_eq (pe_dget hu (pv 1) (pv 3) (fun _ _ => rfl)) (pe_dget hu (pv 1) (pv 4) (fun _ _ => rfl)) (nomark _)) (pe_cmpR op_eq (pv 2) pe_str (nomark _)) (nomark _)) (pss_one (ps_ret pe_bl)) pss_nil)))
      (pss_one (ps_ret pe_bl))), ?_⟩
    obtain ⟨A1, xs, rfl, sq, dx⟩ := dv.tupI
    cases dx with
    | @cons x0 _ _ _ d0 t0 =>
      cases t0
      rw [tsD] at d0
      obtain ⟨B, ys, rfl, sqb, dy⟩ := d0.tupI
      cases dy with
      | cons e1 t1 =>
        cases t1 with
        | cons e2 t2 =>
          cases t2 with
          | cons e3 t3 =>
            cases t3
            cases e1
            cases e2
            cases e3
            have ga : DGet H wd (.str a) (some (.int (wf a))) := by
              have z := DGet.k (k := (Sum.inr a : Key)) hw
              rw [hv a ma] at z
              exact z
            have gb : DGet H wd (.str b) (some (.int (wf b))) := by
              have z := DGet.k (k := (Sum.inr b : Key)) hw
              rw [hv b mb] at z
              exact z
            have hq : decide (V.str (if is = true then "is" else "isnt") = V.str "is") = is := by
              cases is with
              | true => exact decide_eq_true rfl
              | false => exact decide_eq_false (fun h => absurd (by injection h : ("isnt" : Str) = "is") (by decide))
            have hp : decide (V.int (wf a) = V.int (wf b)) = decide (wf a = wf b) := decide_eq_decide.mpr ⟨fun h => by injection h, fun h => by rw [h]⟩
            have hb : ∀ P : Bool, decide (V.bl P = V.bl is) = (P == is) := fun P => by
              cases P <;> cases is <;> rfl
            refine ⟨_, rfl, A1, rfl, ⟨_, sameT sm sq⟩, for_tup (xs := [V.ref B]) (fun i σ H' => H' = H ∧ ∃ o2 o3 o4, σ = [some (.ref A1), some (.ref wd), o2, o3, o4] ∧ (i = 0 ∨ (decide (wf a = wf b) == is) = true)) ⟨rfl, _, _, _, rfl, .inl rfl⟩ (fun _ _ _ _ ⟨e, _⟩ => by rw [e]; exact sameT sm sq) ?_ ?_⟩
            · rintro i x σ H' hx ⟨rfl, o2, o3, o4, rfl, _⟩
              have hi : i = 0 ∧ x = V.ref B := by
                cases i with
                | zero =>
                  rw [List.getElem?_cons_zero] at hx
                  cases hx
                  exact ⟨rfl, rfl⟩
                | succ i => cases hx
              obtain ⟨rfl, rfl⟩ := hi
              refine ⟨B, _, rfl, sameT sm sqb, rfl, _, _, rfl, _, _, rfl, _, _, rfl, rfl, ?_⟩
              dsimp only [gName, List.set]
              refine ⟨_, rfl, _, rfl, wd, _, rfl, ga, _, rfl, _, rfl, wd, _, rfl, gb, rfl, _, rfl, rfl, rfl, _, rfl, ?_⟩
              rw [hp, hq, hb]
              by_cases z : (decide (wf a = wf b) == is) = true
              · rw [z]
                exact ⟨rfl, _, _, _, rfl, .inr rfl⟩
              · have z : (decide (wf a = wf b) == is) = false := by
                  cases y : (decide (wf a = wf b) == is)
                  · rfl
                  · exact absurd y z
                rw [z] at q ⊢
                exact q
            · rintro σ H' ⟨rfl, o2, o3, o4, rfl, h⟩
              rcases h with h | h
              · cases h
              · rw [h] at q
                exact q
end
end L2.Hx

/-! Tests. -/
namespace L2.Hx
open PySem PySem.Spec PyProof.Rows
theorem GrAt.same {K : PySem.W.Frag} {C : Addr} {H H' : Hp} {g d L ch : Addr} {cells : Cells} {cs : List Int} {n : Nat} {lim st : Int} (G : GrAt K C H g d L ch cells cs n lim st) (s : Same H H') : GrAt K C H' g d L ch cells cs n lim st := by
  obtain ⟨⟨dx, h1⟩, ⟨kvs, h2, h3⟩, h4, h5, h6, h7, h8⟩ := G
  exact ⟨⟨dx, s _ _ h1⟩, ⟨kvs, s _ _ h2, h3⟩, s _ _ h4, sameT s h5, h6, h7, h8⟩
theorem WoAt.same {H H' : Hp} {wd : Addr} {ns : List Str} {wf : Str → Int} (w : WoAt H wd ns wf) (s : Same H H') : WoAt H' wd ns wf := let ⟨kvs, a, b⟩ := w; ⟨kvs, s _ _ a, b⟩
def okT (ns : List Str) : Ts → Prop
  | .any => True
  | .look _ a b => a ∈ ns ∧ b ∈ ns ∧ (PyData.str a).canLay0 = true ∧ (PyData.str b).canLay0 = true
theorem ts_lay {ns : List Str} {t : Ts} (h : okT ns t) : (tsD t).canLay0 = true ∧ (tsD t).depth ≤ 20 := by
  cases t with
  | any => exact ⟨by decide +kernel, by decide +kernel⟩
  | look is a b =>
    obtain ⟨_, _, h1, h2⟩ := h
    have h0 : (PyData.str (if is = true then "is" else "isnt")).canLay0 = true := by
      cases is <;> decide +kernel
    unfold tsD
    refine ⟨?_, by simp [PyData.depth, PyData.depthAll]⟩
    simp only [PyData.canLay0] at h0 h1 h2 ⊢
    simp only [PyData.canLayAll0, PyData.canLay0, h0, h1, h2, Bool.and_true]
theorem ts_any (t : Ts) : PyData.eqv (tsD t) (tsD .any) = (match t with | .any => true | .look _ _ _ => false) := by
  cases t with
  | any => decide +kernel
  | look is a b => simp [tsD, PyData.eqv, PyData.eqvAll]
theorem shp_ok {d : PyData} (h1 : d.canLay0 = true) (h2 : d.depth ≤ 20) : SeqAt.shaped d = true := by
  unfold SeqAt.shaped
  rw [Bool.and_eq_true]
  exact ⟨h1, decide_eq_true (by omega)⟩
def spTestP (K : PySem.W.Frag) (C : Addr) : Sp := fun vs H Q _ => ∃ (v : V) (wd : Addr) (G : Hp) (ns : List Str) (wf : Str → Int) (t : Ts) (g d L ch : Addr) (cells : Cells) (cs : List Int) (n : Nat) (lim st : Int), vs = [v, .ref wd, .ref g] ∧ Same G H ∧ Da K G v (tsD t) ∧ okT ns t ∧ WoAt H wd ns wf ∧ GrAt K C H g d L ch cells cs n lim st ∧
  ∀ H', GrAt K C H' g d L ch cells cs (turnT cs n t) lim st → Apart g d L H H' → Q (.bl (holdsT wf cs n t)) H'
section
variable {P : Program} {w : World} {K : PySem.W.Frag} {mg : Str → Option Value} {base : Heap} {C : Addr}
theorem D_test (T : Txt K mg) (kGround : ClsT K mg "Ground" gAt C) (S1 : ∃ f fd, SrcM K C "choose" "Ground.choose" s_Ground_choose ["self"] f fd) : Df P w K mg base 2 "test_holds" ["test", "worths", "ground"] (spTestP K C) := by
  have D_Ground_choose := D_choose (P := P) (w := w) (base := base) T kGround S1
  have D_looks_hold := D_looks (P := P) (w := w) (base := base) T
  obtain ⟨f, fd, S⟩ := T.d_test_holds
  refine Df.mk' (k := 1) S sc_test_holds (fun vs H Q E h => ?_) (fun cdv A outer s H vs Q E hgd hr h => ?_)
  · obtain ⟨v, wd, G, ns, wf, t, g, d, L, ch, cells, cs, n, lim, st, rfl, _⟩ := h
    rfl
  · obtain ⟨v, wd, G, ns, wf, t, g, d, L, ch, cells, cs, n, lim, st, rfl, sm, dv, ok, wo, gr, kk⟩ := h
    refine ⟨_, (pss_cons (ps_if (pt_cmpR (op_eqD hr.units) (pv 0) (pe_tup (pa_cons pe_str pa_nil)) (nomark _)) (pss_one (ps_ret (pe_cmpR op_eq (pe_op op_mod (pe_m0 D_Ground_choose kGround.cl hgd hr (pv 2)) pe_int) pe_int (nomark _)))) pss_nil)
      (pss_one (ps_ret (pe_d D_looks_hold hgd hr (pa_cons (pe_tup (pa_cons (pv 0) pa_nil)) (pa_cons (pv 1) pa_nil)))))), ?_⟩
    obtain ⟨l1, l2⟩ := ts_lay ok
    obtain ⟨m1, m2⟩ := ts_lay (ns := []) (t := .any) trivial
    refine ⟨_, rfl, by show 1 ≤ sizeLine; decide, fun N hN => ?_⟩
    have sN : Same H (upd H N (.tup [V.str "any"])) := sameAdd hN
    have hNt : (upd H N (.tup [V.str "any"])) N = some (.tup [V.str "any"]) := upd_same
    have ap0 : Apart g d L H (upd H N (.tup [V.str "any"])) := fun b o _ _ _ q => sN b o q
    generalize upd H N (.tup [V.str "any"]) = H1 at sN hNt ap0 ⊢
    have gr1 := gr.same sN
    have wo1 := wo.same sN
    have s1 : Same G H1 := sm.trans sN
    refine ⟨tsD t, tsD .any, dv.dp s1 l1, .tup (SqT.of hNt) (.cons (.str _) .nil), shp_ok l1 l2, shp_ok m1 m2, _, rfl, ?_⟩
    rw [ts_any]
    cases t with
    | any =>
      refine if_yes rfl ?_
      obtain ⟨dx, h1⟩ := gr1.ob
      refine ⟨_, rfl, g, dx, _, rfl, h1, rfl, g, d, L, ch, cells, cs, n, lim, st, rfl, gr1, fun H2 G2 a2 => ⟨_, _, rfl, rfl, (show (0 : Int) < 2 by decide), rfl, ?_⟩⟩
      rw [show decide (V.int (nextC cs n % 2) = V.int 1) = holdsT wf cs n .any from decide_eq_decide.mpr ⟨fun h => by injection h, fun h => by rw [h]⟩]
      exact kk H2 G2 fun b o n1 n2 n3 q => a2 b o n1 n2 n3 (ap0 b o n1 n2 n3 q)
    | look is a b =>
      refine if_no rfl ?_
      dsimp only [tNext]
      have d1 := dv.mono s1
      refine ⟨_, rfl, by show 1 ≤ sizeLine; decide, fun N2 hN2 => ?_⟩
      have sN2 : Same H1 (upd H1 N2 (.tup [v])) := sameAdd hN2
      have hN3 : (upd H1 N2 (.tup [v])) N2 = some (.tup [v]) := upd_same
      generalize upd H1 N2 (.tup [v]) = H2 at sN2 hN3 ⊢
      exact ⟨_, rfl, _, wd, H2, ns, wf, is, a, b, rfl, Same.refl _, .tup (SqT.of hN3) (.cons (d1.mono sN2) .nil), wo1.same sN2, ok.1, ok.2.1, kk H2 (gr1.same sN2) fun b o n1 n2 n3 q => sN2 b o (ap0 b o n1 n2 n3 q)⟩
end
end L2.Hx

/-! Plain statements. -/
namespace L2.Hx
open PySem PySem.Spec PyProof.Rows
/-- a Ground's class, whole -/
structure GrS (K : PySem.W.Frag) (mg : Str → Option Value) (C : Addr) : Prop where
  k : ClsT K mg "Ground" gAt C
  i0 : ∃ f fd, SrcI K C "Ground.__init__" s_Ground___init__ ["self", "heap", "choices", "limit"] f fd
  m1 : ∃ f fd, SrcM K C "heap_now" "Ground.heap_now" s_Ground_heap_now ["self"] f fd
  m2 : ∃ f fd, SrcM K C "count_step" "Ground.count_step" s_Ground_count_step ["self"] f fd
  m3 : ∃ f fd, SrcM K C "choose" "Ground.choose" s_Ground_choose ["self"] f fd
  m4 : ∃ f fd, SrcM K C "make" "Ground.make" s_Ground_make ["self", "value"] f fd
  m5 : ∃ f fd, SrcM K C "held_below" "Ground.held_below" s_Ground_held_below ["self", "choice"] f fd
  m6 : ∃ f fd, SrcM K C "drop" "Ground.drop" s_Ground_drop ["self", "address"] f fd
theorem ifN {c : Bool} {A B : Prop} (h : c = false) (b : B) : if c = true then A else B := by
  rw [h]
  exact b
theorem ifWy {i : Nat} {a c : Str} {tA tB : TS} {D : Ends} {σ : St} {H : Hp} (hi : σ[i]? = some (some (.str a))) (h : tA D σ H) (e : a = c := by rfl) : tIfS (tTest (tOp rEq (tVar i) (tC (.str c)))) tA tB D σ H :=
  ⟨_, hi, rfl, _, rfl, if_yes (decide_eq_true (by rw [e])) h⟩
theorem ifWn {i : Nat} {a c : Str} {tA tB : TS} {D : Ends} {σ : St} {H : Hp} (hi : σ[i]? = some (some (.str a))) (h : tB D σ H) (e : a ≠ c := by decide) : tIfS (tTest (tOp rEq (tVar i) (tC (.str c)))) tA tB D σ H := by
  refine ⟨_, hi, rfl, _, rfl, ?_⟩
  rw [decide_eq_false (fun q => e (by injection q))]
  exact h
theorem ifEy {i : Nat} {a c : Str} {tA tB : TE} {Q : VK} {σ : St} {H : Hp} (hi : σ[i]? = some (some (.str a))) (h : tA σ H Q) (e : a = c := by rfl) : tIf (tTest (tOp rEq (tVar i) (tC (.str c)))) tA tB σ H Q :=
  ⟨_, hi, rfl, _, rfl, if_yes (decide_eq_true (by rw [e])) h⟩
theorem ifEn {i : Nat} {a c : Str} {tA tB : TE} {Q : VK} {σ : St} {H : Hp} (hi : σ[i]? = some (some (.str a))) (h : tB σ H Q) (e : a ≠ c := by decide) : tIf (tTest (tOp rEq (tVar i) (tC (.str c)))) tA tB σ H Q := by
  refine ⟨_, hi, rfl, _, rfl, ?_⟩
  rw [decide_eq_false (fun q => e (by injection q))]
  exact h
section
variable {K : PySem.W.Frag} {C : Addr} {H H' : Hp} {g d L ch b : Addr} {cells : Cells} {cs : List Int} {n : Nat} {lim st : Int} {wd : Addr} {ns : List Str} {wf : Str → Int}
theorem ix_at {i : Nat} {c : Int} {A : Addr} {xs : List V} {v : V} {σ : St} {Q : VK} (hi : σ[i]? = some (some (.ref A))) (sq : SqT K H A xs) (q : Q v H) (hc : atI xs c = some v := by rfl) : tOp (rIxT K) (tVar i) (tC (.int c)) σ H Q := ⟨_, hi, A, xs, c, v, rfl, rfl, sq, hc, q⟩
theorem sqT_off {o : HO} {a : Addr} {xs : List V} (h : SqT K H a xs) (n : b ≠ a ∨ (∃ kvs, H b = some (.dK kvs)) ∨ (∃ ys, H b = some (.lst ys)) ∨ ∃ C dx fs, H b = some (.ins C dx fs)) : SqT K (upd H b o) a xs := by
  rcases h with (q | ⟨o, q⟩) | q
  · refine .inl (.inl ?_)
    rw [upd_ne (fun e => ?_)]
    · exact q
    · subst e
      rcases n with n | ⟨_, n⟩ | ⟨_, n⟩ | ⟨_, _, _, n⟩
      · exact n rfl
      · rw [q] at n; cases n
      · rw [q] at n; cases n
      · rw [q] at n; cases n
  · refine .inl (.inr ⟨o, ?_⟩)
    rw [upd_ne (fun e => ?_)]
    · exact q
    · subst e
      rcases n with n | ⟨_, n⟩ | ⟨_, n⟩ | ⟨_, _, _, n⟩
      · exact n rfl
      · rw [q] at n; cases n
      · rw [q] at n; cases n
      · rw [q] at n; cases n
  · exact .inr q
/-- another object that is no tuple is changed -/
theorem GrAt.off {o : HO} (G : GrAt K C H g d L ch cells cs n lim st) (n1 : b ≠ g) (n2 : b ≠ d) (n3 : b ≠ L) (k : b ≠ ch ∨ (∃ kvs, H b = some (.dK kvs)) ∨ (∃ ys, H b = some (.lst ys)) ∨ ∃ C dx fs, H b = some (.ins C dx fs)) : GrAt K C (upd H b o) g d L ch cells cs n lim st := by
  obtain ⟨⟨dx, h1⟩, ⟨kvs, h2, h3⟩, h4, h5, h6, h7, h8⟩ := G
  exact ⟨⟨dx, by rw [upd_ne n1.symm]; exact h1⟩, ⟨kvs, by rw [upd_ne n2.symm]; exact h2, h3⟩, by rw [upd_ne n3.symm]; exact h4, sqT_off h5 k, h6, h7, h8⟩
theorem GrAt.ngd (G : GrAt K C H g d L ch cells cs n lim st) : d ≠ g := fun e => by
  obtain ⟨dx, h1⟩ := G.ob
  obtain ⟨kvs, h4, _⟩ := G.dc
  rw [e, h1] at h4
  cases h4
theorem GrAt.ngL (G : GrAt K C H g d L ch cells cs n lim st) : L ≠ g := fun e => by
  obtain ⟨dx, h1⟩ := G.ob
  have h4 := G.hl
  rw [e, h1] at h4
  cases h4
theorem GrAt.ndL (G : GrAt K C H g d L ch cells cs n lim st) : d ≠ L := fun e => by
  obtain ⟨kvs, h4, _⟩ := G.dc
  have h5 := G.hl
  rw [e, h5] at h4
  cases h4
theorem getC_put {a v : Int} (cs : Cells) (b : Int) : getC (putC cs a v) b = if b = a then (getC cs a).map (fun _ => v) else getC cs b := by
  induction cs with
  | nil => by_cases h : b = a <;> simp [putC, getC, h]
  | cons p cs ih =>
    unfold putC at ih ⊢
    rw [List.map_cons]
    by_cases h : p.1 = a
    · subst h
      rw [if_pos rfl, getC_cons, getC_cons, getC_cons, ih, if_pos rfl]
      by_cases z : b = p.1
      · simp only [if_pos z]
        rfl
      · simp only [if_neg z]
    · have h2 : ¬ a = p.1 := fun e => h e.symm
      rw [if_neg h, getC_cons, getC_cons, getC_cons, ih, if_neg h2]
      by_cases z : b = p.1
      · rw [if_pos z, if_pos z, if_neg (fun e => h (z.symm.trans e))]
      · rw [if_neg z, if_neg z]
theorem put_keys (cs : Cells) (a v : Int) : (putC cs a v).map (·.1) = cs.map (·.1) := by
  unfold putC
  rw [List.map_map]
  refine List.map_congr_left fun c _ => ?_
  show (if c.1 = a then (a, v) else c).1 = c.1
  by_cases h : c.1 = a
  · rw [if_pos h]
    exact h.symm
  · rw [if_neg h]
theorem lenK_ex {kvs : List (Key × V)} {k : Key} {v u : V} (h : valV kvs k = some v) : (putK kvs k u).length = kvs.length := by
  unfold putK
  rw [valV_any, h]
  exact List.length_map _
theorem keysK_ex {kvs : List (Key × V)} {k : Key} {v u : V} (h : valV kvs k = some v) : (putK kvs k u).map (·.1) = kvs.map (·.1) := by
  unfold putK
  rw [valV_any, h]
  show ((kvs.map fun kv => if kv.1 = k then (kv.1, u) else kv).map (·.1)) = _
  rw [List.map_map]
  refine List.map_congr_left fun c _ => ?_
  show (if c.1 = k then (c.1, u) else c).1 = c.1
  by_cases z : c.1 = k
  · rw [if_pos z]
  · rw [if_neg z]
theorem GrAt.putCell (G : GrAt K C H g d L ch cells cs n lim st) {a v0 v : Int} (hv : getC cells a = some v0) : ∃ H', DPut H d (.int a) (.int v) H' ∧ GrAt K C H' g d L ch (putC cells a v) cs n lim st ∧ ∀ b, b ≠ d → H' b = H b := by
  obtain ⟨kvs, hd, nd, hk, lk⟩ := G.dc
  have few := G.few.1
  have big : (300000 : Nat) ≤ sizeLine := by decide
  have ex : valV kvs (Sum.inl a : Key) = some (.int v0) := by rw [hk, hv]; rfl
  refine ⟨_, DPut.k (k := Sum.inl a) hd (by omega), ⟨?_, ⟨_, upd_same, by rw [keysK_ex ex]; exact nd, fun b => ?_, ?_⟩, ?_, ?_, ?_, ?_, G.nn⟩, fun b nb => upd_ne nb⟩
  · obtain ⟨dx, h1⟩ := G.ob
    exact ⟨dx, by rw [upd_ne G.ngd.symm]; exact h1⟩
  · rw [valV_put, getC_put]
    by_cases z : b = a
    · rw [if_pos (by rw [z]), if_pos z, hv]
      rfl
    · rw [if_neg (fun e => z (by injection e)), if_neg z]
      exact hk b
  · rw [lenK_ex ex, lk]
    unfold putC
    rw [List.length_map]
  · rw [upd_ne G.ndL.symm, G.hl, show (fun c : Int × Int => V.int c.1) = V.int ∘ (·.1) from rfl, ← List.map_map, ← List.map_map, put_keys]
  · exact sqT_off G.ch_ (.inr (.inl ⟨_, hd⟩))
  · rw [put_keys]
    exact G.asc
  · unfold putC
    rw [List.length_map]
    exact G.few
theorem WoAt.get {x : Str} (w : WoAt H wd ns wf) (hx : x ∈ ns) : DGet H wd (.str x) (some (.int (wf x))) := by
  obtain ⟨kvs, hw, _, hv⟩ := w
  have z := DGet.k (k := (Sum.inr x : Key)) hw
  rw [hv x hx] at z
  exact z
theorem WoAt.put {x : Str} (w : WoAt H wd ns wf) (hx : x ∈ ns) (v : Int) : ∃ H', DPut H wd (.str x) (.int v) H' ∧ WoAt H' wd ns (upW wf x v) ∧ (∃ o, H' = upd H wd o) ∧ ∀ b, b ≠ wd → H' b = H b := by
  obtain ⟨kvs, hw, hl, hv⟩ := w
  have big : (300000 : Nat) ≤ sizeLine := by decide
  refine ⟨_, DPut.k (k := Sum.inr x) hw (by omega), ⟨_, upd_same, by rw [lenK_ex (hv x hx)]; exact hl, fun y hy => ?_⟩, ⟨_, rfl⟩, fun b nb => upd_ne nb⟩
  rw [valV_put]
  unfold upW
  by_cases z : y = x
  · rw [if_pos (by rw [z]), if_pos z]
  · rw [if_neg (fun e => z (by injection e)), if_neg z]
    exact hv y hy
theorem WoAt.isd (w : WoAt H wd ns wf) : ∃ kvs, H wd = some (.dK kvs) := let ⟨kvs, a, _⟩ := w; ⟨kvs, a⟩
theorem WoAt.stay (w : WoAt H wd ns wf) (k : ∀ o, H wd = some o → H' wd = some o) : WoAt H' wd ns wf := let ⟨kvs, a, b⟩ := w; ⟨kvs, k _ a, b⟩
theorem GrAt.cell (G : GrAt K C H g d L ch cells cs n lim st) (a : Int) : DGet H d (.int a) ((getC cells a).map V.int) := by
  obtain ⟨kvs, hd, nd, hk, lk⟩ := G.dc
  have z := DGet.k (k := (Sum.inl a : Key)) hd
  rw [hk a] at z
  exact z
theorem GrAt.dc' (G : GrAt K C H g d L ch cells cs n lim st) : ∃ kvs, H d = some (.dK kvs) := let ⟨kvs, a, _⟩ := G.dc; ⟨kvs, a⟩
/-- tuples stay -/
theorem apT {A : Addr} {xs : List V} (a : Apart g d L H H') (h : SqT K H A xs) (hg : ∃ C dx fs, H g = some (.ins C dx fs)) (hd : ∃ kvs, H d = some (.dK kvs)) (hL : ∃ ys, H L = some (.lst ys)) : SqT K H' A xs := by
  rcases h with (q | ⟨o, q⟩) | q
  · exact .inl (.inl (a _ _ (fun e => by obtain ⟨_, _, _, z⟩ := hg; rw [e, z] at q; cases q) (fun e => by obtain ⟨_, z⟩ := hd; rw [e, z] at q; cases q) (fun e => by obtain ⟨_, z⟩ := hL; rw [e, z] at q; cases q) q))
  · exact .inl (.inr ⟨o, a _ _ (fun e => by obtain ⟨_, _, _, z⟩ := hg; rw [e, z] at q; cases q) (fun e => by obtain ⟨_, z⟩ := hd; rw [e, z] at q; cases q) (fun e => by obtain ⟨_, z⟩ := hL; rw [e, z] at q; cases q) q⟩)
  · exact .inr q
theorem gr_cells {mg : Str → Option Value} {i : Nat} {σ : St} {Q : VK} (k : ClsT K mg "Ground" gAt C) (G : GrAt K C H g d L ch cells cs n lim st) (hi : σ[i]? = some (some (.ref g))) (q : Q (.ref d) H) : tFld K (tVar i) "cells" σ H Q := by
  obtain ⟨dx, h1⟩ := G.ob
  exact ⟨_, hi, g, C, dx, _, _, rfl, h1, k.cl, k.no.get (by decide), gF_cells, q⟩
end
def okO (ns : List Str) : Op → Prop
  | .set x a | .new x a | .get x a => x ∈ ns ∧ a ∈ ns
  | .put a b => a ∈ ns ∧ b ∈ ns
  | .free a => a ∈ ns
theorem op_none {cs : List Int} {wf : Str → Int} {cells : Cells} {n : Nat} {o : Op} {a : Str} (h : getC cells (wf a) = none) (e : (match o with | .get _ b | .put b _ | .free b => b = a | _ => False) = True) : doOp cs wf cells n o = none := by
  cases o with
  | set => exact (cast e.symm trivial : False).elim
  | new => exact (cast e.symm trivial : False).elim
  | get x b => obtain rfl : b = a := cast e.symm trivial; unfold doOp; simp only [h]
  | put b x => obtain rfl : b = a := cast e.symm trivial; unfold doOp; simp only [h]
  | free b => obtain rfl : b = a := cast e.symm trivial; unfold doOp; simp only [h]
theorem op_get {cs : List Int} {wf : Str → Int} {cells : Cells} {n : Nat} {x a : Str} {v : Int} (h : getC cells (wf a) = some v) : doOp cs wf cells n (.get x a) = some (upW wf x v, cells, n) := by
  unfold doOp; simp only [h]
theorem op_put {cs : List Int} {wf : Str → Int} {cells : Cells} {n : Nat} {a b : Str} {v : Int} (h : getC cells (wf a) = some v) : doOp cs wf cells n (.put a b) = some (wf, putC cells (wf a) (wf b), n) := by
  unfold doOp; simp only [h]
theorem op_free {cs : List Int} {wf : Str → Int} {cells : Cells} {n : Nat} {a : Str} {v : Int} (h : getC cells (wf a) = some v) : doOp cs wf cells n (.free a) = some (wf, delC cells (wf a), n) := by
  unfold doOp; simp only [h]
/-- nothing but the Ground and one dict is touched -/
def ApartW (wd g d L : Addr) (H H' : Hp) : Prop := ∀ b o, b ≠ wd → b ≠ g → b ≠ d → b ≠ L → H b = some o → H' b = some o
def spPlain (K : PySem.W.Frag) (C : Addr) : Sp := fun vs H Q _ => ∃ (v : V) (wd : Addr) (G : Hp) (ns : List Str) (wf : Str → Int) (o : Op) (g d L ch : Addr) (cells : Cells) (cs : List Int) (n : Nat) (lim st : Int), vs = [v, .ref wd, .ref g] ∧ Same G H ∧ Da K G v (opD o) ∧ okO ns o ∧ WoAt H wd ns wf ∧ GrAt K C H g d L ch cells cs n lim st ∧ wd ≠ d ∧
  (∀ c ∈ cs, 0 ≤ c) ∧ cells.length < 100000 ∧
  (doOp cs wf cells n o = none → Q (.bl false) H) ∧ ∀ wf' cells' n', doOp cs wf cells n o = some (wf', cells', n') → ∀ H', WoAt H' wd ns wf' → GrAt K C H' g d L ch cells' cs n' lim st → ApartW wd g d L H H' → Q (.bl true) H'
section
variable {P : Program} {w : World} {K : PySem.W.Frag} {mg : Str → Option Value} {base : Heap} {C : Addr}
theorem D_plain (T : Txt K mg) (S : GrS K mg C) : Df P w K mg base 3 "do_plain" ["statement", "worths", "ground"] (spPlain K C) := by
  have kGround := S.k
  have D_Ground_make := D_make (P := P) (w := w) (base := base) T S.k S.m4 S.m3 S.m5
  have D_Ground_drop := D_drop (P := P) (w := w) (base := base) T S.k S.m6
  obtain ⟨f, fd, Sd⟩ := T.d_do_plain
  refine Df.mk' (k := 2) Sd sc_do_plain (fun vs H Q E h => ?_) (fun cdv A outer s H vs Q E hgd hr h => ?_)
  · obtain ⟨v, wd, G, ns, wf, o, g, d, L, ch, cells, cs, n, lim, st, rfl, _⟩ := h
    rfl
  · obtain ⟨v, wd, G, ns, wf, o, g, d, L, ch, cells, cs, n, lim, st, rfl, sm, dv, ok, wo, gr, nwd, cpos, cfew, kn, ky⟩ := h
    have hu := hu_of hr
    obtain ⟨dx, hg⟩ := gr.ob
    have nwg : wd ≠ g := fun e => by
      obtain ⟨kvs, hw⟩ := wo.isd
      rw [e, hg] at hw
      cases hw
    have nwL : wd ≠ L := fun e => by
      obtain ⟨kvs, hw⟩ := wo.isd
      rw [e, gr.hl] at hw
      cases hw
    refine ⟨_, (pss_cons (ps_set (i := 3) sc_do_plain.nd rfl (.inl rfl) (pe_ix ix_tup (pv 0) pe_int (fun _ _ => rfl)))
      (pss_cons (ps_if (pt_cmpR op_eq (pv 3) pe_str (nomark _)) (pss_cons (ps_dput hu (pv 1) (pe_ix ix_tup (pv 0) pe_int (fun _ _ => rfl)) (pe_dget hu (pv 1) (pe_ix ix_tup (pv 0) pe_int (fun _ _ => rfl)) (fun _ _ => rfl)) rfl)
      (pss_one (ps_ret pe_bl))) pss_nil)
      (pss_cons (ps_if (pt_cmpR op_eq (pv 3) pe_str (nomark _)) (pss_cons (ps_dput hu (pv 1) (pe_ix ix_tup (pv 0) pe_int (fun _ _ => rfl)) (pe_m D_Ground_make kGround.cl hgd hr (pv 2) (pa_cons (pe_dget hu (pv 1) (pe_ix ix_tup (pv 0) pe_int (fun _ _ => rfl)) (fun _ _ => rfl)) pa_nil)) rfl)
      (pss_one (ps_ret pe_bl))) pss_nil)
      (pss_cons (ps_set (i := 4) sc_do_plain.nd rfl (.inl rfl) (pe_dget hu (pv 1) (pe_ix ix_tup (pv 0) (pe_ifExp (pt_cmpR op_eq (pv 3) pe_str (nomark _)) pe_int pe_int) (fun _ _ => rfl)) (fun _ _ => rfl)))
      (pss_cons (ps_if (pt_cmp (pc_dnotin hu (pv 4) (pe_fld (pv 2) rfl))) (pss_one (ps_ret pe_bl)) pss_nil)
      (pss_cons (ps_if (pt_cmpR op_eq (pv 3) pe_str (nomark _)) (pss_one (ps_dput hu (pv 1) (pe_ix ix_tup (pv 0) pe_int (fun _ _ => rfl)) (pe_dget hu (pe_fld (pv 2) rfl) (pv 4) (fun _ _ => rfl)) rfl)) (pss_one (ps_if (pt_cmpR op_eq (pv 3) pe_str (nomark _)) (pss_one (ps_dput hu (pe_fld (pv 2) rfl) (pv 4) (pe_dget hu (pv 1) (pe_ix ix_tup (pv 0) pe_int (fun _ _ => rfl)) (fun _ _ => rfl)) rfl)) (pss_one (ps_expr (pe_m D_Ground_drop kGround.cl hgd hr (pv 2) (pa_cons (pv 4) pa_nil)))))))
      (pss_one (ps_ret pe_bl)))))))), ?_⟩
    cases o with
    | set x a =>
      obtain ⟨A1, xs, rfl, sq, dx⟩ := Da.tupI (show Da K G v (.tuple [.str "set", .str x, .str a]) from dv)
      cases dx with | cons e1 t1 => cases t1 with | cons e2 t2 => cases t2 with | cons e3 t3 =>
      cases t3; cases e1; cases e2; cases e3
      have sq := sameT sm sq
      obtain ⟨hx, ha⟩ := ok
      refine ix_at rfl sq ?_
      dsimp only [gName, List.set]
      refine ifWy rfl ?_
      refine ⟨_, rfl, ix_at rfl sq ⟨wd, _, rfl, wo.get ha, ?_⟩⟩
      obtain ⟨H', p, w2, ⟨o, rfl⟩, k2⟩ := wo.put hx (wf a)
      exact ⟨_, rfl, ix_at rfl sq ⟨wd, _, rfl, p, ky _ _ _ rfl _ w2 (gr.off nwg nwd nwL (.inr (.inl wo.isd))) fun b o n1 _ _ _ q => by rw [k2 b n1]; exact q⟩⟩
    | new x a =>
      obtain ⟨A1, xs, rfl, sq, dx⟩ := Da.tupI (show Da K G v (.tuple [.str "new", .str x, .str a]) from dv)
      cases dx with | cons e1 t1 => cases t1 with | cons e2 t2 => cases t2 with | cons e3 t3 =>
      cases t3; cases e1; cases e2; cases e3
      have sq := sameT sm sq
      obtain ⟨hx, ha⟩ := ok
      refine ix_at rfl sq ?_
      dsimp only [gName, List.set]
      refine ifWn rfl (ifWy rfl ?_)
      refine ⟨_, rfl, g, _, _, rfl, hg, rfl, _, rfl, ix_at rfl sq ⟨wd, _, rfl, wo.get ha, g, d, L, ch, cells, cs, n, lim, st, _, rfl, gr, cpos, cfew, fun H1 G1 a1 => ?_⟩⟩
      have wo1 : WoAt H1 wd ns wf := wo.stay fun o q => a1 wd o nwg nwd nwL q
      obtain ⟨H', p, w2, ⟨o, rfl⟩, k2⟩ := wo1.put hx (atC cells (nextC cs n))
      have sq1 : SqT K H1 A1 [V.str "new", V.str x, V.str a] := apT a1 sq ⟨_, _, _, hg⟩ gr.dc' ⟨_, gr.hl⟩
      exact ⟨_, rfl, ix_at rfl sq1 ⟨wd, _, rfl, p, ky _ _ _ rfl _ w2 (G1.off nwg nwd nwL (.inr (.inl wo1.isd))) fun b o n1 n2 n3 n4 q => by rw [k2 b n1]; exact a1 b o n2 n3 n4 q⟩⟩
    | get x a =>
      obtain ⟨A1, xs, rfl, sq, dx⟩ := Da.tupI (show Da K G v (.tuple [.str "get", .str x, .str a]) from dv)
      cases dx with | cons e1 t1 => cases t1 with | cons e2 t2 => cases t2 with | cons e3 t3 =>
      cases t3; cases e1; cases e2; cases e3
      have sq := sameT sm sq
      obtain ⟨hx, ha⟩ := ok
      refine ix_at rfl sq ?_
      dsimp only [gName, List.set]
      refine ifWn rfl (ifWn rfl ?_)
      refine ⟨_, rfl, ⟨_, rfl, ifEy rfl ⟨A1, _, _, _, rfl, rfl, sq, rfl, wd, _, rfl, wo.get ha, ?_⟩⟩⟩
      dsimp only [gName, List.set]
      refine ⟨_, rfl, gr_cells kGround gr rfl ⟨d, _, rfl, gr.cell _, ?_⟩⟩
      cases hc : getC cells (wf a) with
      | none => exact ⟨_, rfl, kn (op_none (a := a) hc (eq_self _))⟩
      | some z =>
        have gc := gr.cell (wf a)
        rw [hc] at gc
        refine ⟨_, rfl, ifN rfl ?_⟩
        refine ifWy rfl ?_
        refine ⟨_, rfl, g, C, _, _, _, rfl, hg, kGround.cl, kGround.no.get (by decide), gF_cells, _, rfl, d, _, rfl, gc, ?_⟩
        obtain ⟨H', p, w2, ⟨o, rfl⟩, k2⟩ := wo.put hx z
        exact ⟨_, rfl, ix_at rfl sq ⟨wd, _, rfl, p, ky _ _ _ (op_get hc) _ w2 (gr.off nwg nwd nwL (.inr (.inl wo.isd))) fun b o n1 _ _ _ q => by rw [k2 b n1]; exact q⟩⟩
    | put a b =>
      obtain ⟨A1, xs, rfl, sq, dx⟩ := Da.tupI (show Da K G v (.tuple [.str "put", .str a, .str b]) from dv)
      cases dx with | cons e1 t1 => cases t1 with | cons e2 t2 => cases t2 with | cons e3 t3 =>
      cases t3; cases e1; cases e2; cases e3
      have sq := sameT sm sq
      obtain ⟨ha, hb⟩ := ok
      refine ix_at rfl sq ?_
      dsimp only [gName, List.set]
      refine ifWn rfl (ifWn rfl ?_)
      refine ⟨_, rfl, ⟨_, rfl, ifEn rfl ⟨A1, _, _, _, rfl, rfl, sq, rfl, wd, _, rfl, wo.get ha, ?_⟩⟩⟩
      dsimp only [gName, List.set]
      refine ⟨_, rfl, gr_cells kGround gr rfl ⟨d, _, rfl, gr.cell _, ?_⟩⟩
      cases hc : getC cells (wf a) with
      | none => exact ⟨_, rfl, kn (op_none (a := a) hc (eq_self _))⟩
      | some z =>
        refine ⟨_, rfl, ifN rfl ?_⟩
        refine ifWn rfl (ifWy rfl ?_)
        refine ⟨_, rfl, ix_at rfl sq ⟨wd, _, rfl, wo.get hb, ?_⟩⟩
        obtain ⟨H', p, g2, k2⟩ := gr.putCell (v := wf b) hc
        exact gr_cells kGround gr rfl ⟨_, rfl, d, _, rfl, p, ky _ _ _ (op_put hc) _ (wo.stay fun o q => by rw [k2 _ nwd]; exact q) g2 fun b o _ _ n3 _ q => by rw [k2 b n3]; exact q⟩
    | free a =>
      obtain ⟨A1, xs, rfl, sq, dx⟩ := Da.tupI (show Da K G v (.tuple [.str "free", .str a]) from dv)
      cases dx with | cons e1 t1 => cases t1 with | cons e2 t2 =>
      cases t2; cases e1; cases e2
      have sq := sameT sm sq
      refine ix_at rfl sq ?_
      dsimp only [gName, List.set]
      refine ifWn rfl (ifWn rfl ?_)
      refine ⟨_, rfl, ⟨_, rfl, ifEn rfl ⟨A1, _, _, _, rfl, rfl, sq, rfl, wd, _, rfl, wo.get ok, ?_⟩⟩⟩
      dsimp only [gName, List.set]
      refine ⟨_, rfl, gr_cells kGround gr rfl ⟨d, _, rfl, gr.cell _, ?_⟩⟩
      cases hc : getC cells (wf a) with
      | none => exact ⟨_, rfl, kn (op_none (a := a) hc (eq_self _))⟩
      | some z =>
        refine ⟨_, rfl, ifN rfl ?_⟩
        refine ifWn rfl (ifWn rfl ?_)
        exact ⟨_, rfl, g, _, _, rfl, hg, rfl, _, rfl, g, d, L, ch, cells, cs, n, lim, st, _, z, rfl, gr, hc, fun H1 G1 a1 => ky _ _ _ (op_free hc) _ (wo.stay fun o q => a1 wd o nwg nwd nwL q) G1 fun b o _ n2 n3 n4 q => a1 b o n2 n3 n4 q⟩
end
end L2.Hx

/-! zip of a tuple and a list (or of two tuples): a for over it. -/
namespace L2.Zm
open PySem PySem.Spec PyProof.Rows
/-- an iterator of a list or of a tuple, at its place -/
def Its (h : Heap) (i l : Addr) (k : Nat) (xs : Array Value) : Prop := (h.IsListIter i l k ∧ h.IsList l xs) ∨ (h.IsTupleIter i l k ∧ h.IsTuple l xs)
theorem Its.moved {h h' : Heap} {i l : Addr} {k : Nat} {xs : Array Value} (x : Its h i l k xs) (hi : ∀ o, h.get? i = some o → h'.get? i = some o) (hl : ∀ o, h.get? l = some o → h'.get? l = some o) : Its h' i l k xs := by
  rcases x with ⟨a, b⟩ | ⟨a, b⟩
  · exact .inl ⟨a.at hi, b.at hl⟩
  · exact .inr ⟨a.at hi, let ⟨o, e, q⟩ := b; ⟨o, hl o e, q⟩⟩
theorem Its.ltI {h : Heap} {i l : Addr} {k : Nat} {xs : Array Value} (x : Its h i l k xs) : i < h.objs.size := by
  rcases x with ⟨⟨o, e, _⟩, _⟩ | ⟨⟨o, e, _⟩, _⟩ <;> exact Heap.lt_size e
theorem Its.ex {h : Heap} {i l : Addr} {k : Nat} {xs : Array Value} (x : Its h i l k xs) : ∃ o, h.get? i = some o ∧ ∀ v, o.data ≠ .cell v := by
  rcases x with ⟨⟨o, e, _, d⟩, _⟩ | ⟨⟨o, e, _, d⟩, _⟩ <;> exact ⟨o, e, fun v q => by rw [d] at q; cases q⟩
section
variable {prog : Program} {w : World} {A : Around} {E : Value → Shared → Prop} {s : Shared}
theorem its_item {it l : Addr} {k : Nat} {xs : Array Value} {x : Value} {Q : Value → Shared → Prop} (h : Its s.heap it l k xs) (ne : it ≠ l) (hx : xs[k]? = some x)
    (hQ : ∀ h', Its h' it l (k + 1) xs → Heap.SameBut it s.heap h' → Q x { s with heap := h' }) : wpAny (model prog w) A (Builtin.SmallTypes.nextOf (.ref it)) Q E s := by
  rcases h with ⟨a, b⟩ | ⟨a, b⟩
  · exact wpAny_nextOf_list_item a b hx fun h' q sb => hQ h' (.inl ⟨q, b.at fun o e => sb.extBut _ _ ne.symm e⟩) sb
  · exact RZ.nextOf_tuple_item a b hx fun h' q sb => hQ h' (.inr ⟨q, let ⟨o, e, z⟩ := b; ⟨o, sb.extBut _ _ ne.symm e, z⟩⟩) sb
theorem its_end {it l : Addr} {k : Nat} {xs : Array Value} {Q : Value → Shared → Prop} (hh : A.handled = none) (h : Its s.heap it l k xs) (hx : xs[k]? = none)
    (hE : ∀ h' e, Heap.ExtBut it s.heap h' → (∃ o, h'.get? e = some o ∧ o.cls = .type "StopIteration") → E (.ref e) { s with heap := h' }) : wpAny (model prog w) A (Builtin.SmallTypes.nextOf (.ref it)) Q E s := by
  rcases h with ⟨a, b⟩ | ⟨a, b⟩
  · exact wpAny_nextOf_list_end hh a b hx hE
  · exact RZ.nextOf_tuple_end hh a b hx hE
/-- the next pair of a zip that has handed out none -/
theorem first_item {z TI TO i1 i2 l1 l2 : Addr} {k1 k2 : Nat} {xs ys : Array Value} {x y a b : Value} {Q : Option Value → Shared → Prop} (D : ZipApart z TI TO i1 i2 l1 l2)
    (zz : IsZip s.heap z TI TO .none) (ti : IsPair s.heap TI (.ref i1) (.ref i2)) (to : IsPair s.heap TO a b) (j1 : Its s.heap i1 l1 k1 xs) (j2 : Its s.heap i2 l2 k2 ys) (n1 : i1 ≠ l1) (n2 : i2 ≠ l2) (hx : xs[k1]? = some x) (hy : ys[k2]? = some y)
    (hQ : ∀ h', IsZip h' z TI TO (rawInt s.heap.objs.size) → IsPair h' TO x y → Its h' i1 l1 (k1 + 1) xs → Its h' i2 l2 (k2 + 1) ys → IsPair h' s.heap.objs.size x y → h'.objs.size = s.heap.objs.size + 1 →
      (∀ c o, c ≠ z → c ≠ TO → c ≠ i1 → c ≠ i2 → s.heap.get? c = some o → h'.get? c = some o) → Q (some (.ref s.heap.objs.size)) { s with heap := h' }) :
    wpAny (model prog w) A (pyNext (.ref z)) Q E s := by
  have ty : s.TypeIs (.ref z) "zip" := ⟨_, zz, rfl⟩
  unfold pyNext
  refine wpAny_bind (wpAny_attempt (wpAny_callSpecial?_slot (name := Str.ofString "__next__") ty F.slot_zip_next (wpAny_call_entry F.slot_zip_next ty F.entry_zip_next ?_ (F.args_zip_next_1 _))))
  show wpAny _ _ (field (.ref z) 2 >>= _) _ _ _
  refine wpAny_bind (wpAny_field zz rfl (x := .bool false) rfl ?_)
  show wpAny _ _ (field (.ref z) 3 >>= _) _ _ _
  refine wpAny_bind (wpAny_field zz rfl (x := .ref TI) rfl ?_)
  refine wpAny_bind (wpAny_seqItems ti rfl ?_)
  show wpAny _ _ (Builtin.SmallTypes.ownedTupleIsFree (.ref z) >>= _) _ _ _
  refine wpAny_bind ?_
  unfold Builtin.SmallTypes.ownedTupleIsFree
  refine wpAny_bind (wpAny_field zz rfl (x := .none) rfl (wpAny_pure ?_))
  simp only [if_true]
  refine wpAny_bind (wpAny_rule ?_)
  refine wpAny_bind (wpAny_field zz rfl (x := .ref TO) rfl ?_)
  refine wpAny_bind (wpAny_setField_rec zz (by simp) fun ha zza sa => ?_)
  replace zza : IsZip ha z TI TO .ellipsis := zza
  refine wpAny_bind ?_
  simp only [List.zipIdx_cons, List.zipIdx_nil, List.forIn_cons, List.forIn_nil]
  refine wpAny_bind (wpAny_bind (wpAny_onRaise ?_))
  show wpAny _ _ (Builtin.SmallTypes.nextOf (.ref i1) >>= _) _ _ _
  refine wpAny_bind (its_item (j1.moved (fun o q => sa.extBut _ _ D.i1z q) fun o q => sa.extBut _ _ D.l1z q) n1 hx fun hb ja sb => wpAny_pure ?_)
  have tob : IsPair hb TO a b := sb.extBut _ _ D.TOi1 (sa.extBut _ _ D.TOz to)
  refine wpAny_bind (wpAny_seqItems tob rfl ?_)
  refine wpAny_bind (wpAny_updateSeq_pair tob fun hc toc sc => ?_)
  replace toc : IsPair hc TO x b := toc
  refine wpAny_bind (wpAny_letGo (wpAny_pure ?_))
  refine wpAny_bind (wpAny_bind (wpAny_onRaise ?_))
  show wpAny _ _ (Builtin.SmallTypes.nextOf (.ref i2) >>= _) _ _ _
  have upc : ∀ c o, c ≠ z → c ≠ TO → c ≠ i1 → s.heap.get? c = some o → hc.get? c = some o := fun c o c1 c2 c3 e => sc.extBut _ _ c2 (sb.extBut _ _ c3 (sa.extBut _ _ c1 e))
  refine wpAny_bind (its_item (j2.moved (fun o q => upc _ o D.i2z D.TOi2.symm D.i12.symm q) fun o q => upc _ o D.l2z D.l2TO D.l2i1 q) n2 hy fun hd jb sd => wpAny_pure ?_)
  have tod : IsPair hd TO x b := sd.extBut _ _ D.TOi2 toc
  refine wpAny_bind (wpAny_seqItems tod rfl ?_)
  refine wpAny_bind (wpAny_updateSeq_pair tod fun he toe se => ?_)
  replace toe : IsPair he TO x y := toe
  refine wpAny_bind (wpAny_letGo (wpAny_pure (wpAny_pure ?_)))
  refine wpAny_bind (wpAny_seqItems toe rfl ?_)
  refine wpAny_bind (wpAny_newTuple ?_)
  have size : he.objs.size = s.heap.objs.size := by rw [se.1, sd.1, sc.1, sb.1, sa.1]
  have zze : IsZip he z TI TO .ellipsis := se.extBut _ _ D.TOz.symm (sd.extBut _ _ D.i2z.symm (sc.extBut _ _ D.TOz.symm (sb.extBut _ _ D.i1z.symm zza)))
  have upe : ∀ c o, c ≠ z → c ≠ TO → c ≠ i1 → c ≠ i2 → s.heap.get? c = some o → he.get? c = some o := fun c o c1 c2 c3 c4 e => se.extBut _ _ c2 (sd.extBut _ _ c4 (upc c o c1 c2 c3 e))
  have je1 : Its he i1 l1 (k1 + 1) xs := ja.moved (fun o q => se.extBut _ _ D.TOi1.symm (sd.extBut _ _ D.i12 (sc.extBut _ _ D.TOi1.symm q))) fun o q => se.extBut _ _ D.l1TO (sd.extBut _ _ D.l1i2 (sc.extBut _ _ D.l1TO q))
  have je2 : Its he i2 l2 (k2 + 1) ys := jb.moved (fun o q => se.extBut _ _ D.TOi2.symm q) fun o q => se.extBut _ _ D.l2TO q
  have zlt : z < he.objs.size := Heap.lt_size zze
  show wpAny _ _ (Builtin.SmallTypes.ownedTupleHandOut (.ref z) (.ref he.objs.size) >>= _) _ _ _
  refine wpAny_bind ?_
  unfold Builtin.SmallTypes.ownedTupleHandOut
  have zzf : IsZip (he.push { cls := .type "tuple", data := .seq #[x, y] }) z TI TO .ellipsis := Heap.get?_push_of_some _ zze
  refine wpAny_bind (wpAny_setField_rec zzf (by simp) fun hg zzg sg => ?_)
  replace zzg : IsZip hg z TI TO (rawInt he.objs.size) := zzg
  refine wpAny_setField_rec zzg (by simp) fun hi zzi si => ?_
  replace zzi : IsZip hi z TI TO (rawInt he.objs.size) := zzi
  have upi : ∀ c o, c ≠ z → he.get? c = some o → hi.get? c = some o := fun c o c1 e => si.extBut _ _ c1 (sg.extBut _ _ c1 (Heap.get?_push_of_some _ e))
  have new : IsPair hi he.objs.size x y := si.extBut _ _ (Nat.ne_of_gt zlt) (sg.extBut _ _ (Nat.ne_of_gt zlt) (Heap.get?_push_size _ rfl))
  have sizi : hi.objs.size = he.objs.size + 1 := by rw [si.1, sg.1, Heap.size_push]
  rw [size] at zzi new sizi
  refine wpAny_pure ⟨_, rfl, wpAny_pure ?_⟩
  show Q (some (.ref he.objs.size)) _
  rw [size]
  exact hQ hi zzi (upi _ _ D.TOz toe) (je1.moved (fun o q => upi _ o D.i1z q) fun o q => upi _ o D.l1z q) (je2.moved (fun o q => upi _ o D.i2z q) fun o q => upi _ o D.l2z q) new sizi fun c o c1 c2 c3 c4 e => upi c o c1 (upe c o c1 c2 c3 c4 e)
theorem first_end {z TI TO i1 i2 l1 l2 : Addr} {k1 : Nat} {xs : Array Value} {a b : Value} {Q : Option Value → Shared → Prop} (hh : A.handled = none) (D : ZipApart z TI TO i1 i2 l1 l2)
    (zz : IsZip s.heap z TI TO .none) (ti : IsPair s.heap TI (.ref i1) (.ref i2)) (to : IsPair s.heap TO a b) (j1 : Its s.heap i1 l1 k1 xs) (hx : xs[k1]? = none)
    (hQ : ∀ h', (∀ c o, c ≠ z → c ≠ TO → c ≠ i1 → c ≠ i2 → s.heap.get? c = some o → h'.get? c = some o) → Q none { s with heap := h' }) : wpAny (model prog w) A (pyNext (.ref z)) Q E s := by
  have ty : s.TypeIs (.ref z) "zip" := ⟨_, zz, rfl⟩
  unfold pyNext
  refine wpAny_bind (wpAny_attempt (wpAny_callSpecial?_slot (name := Str.ofString "__next__") ty F.slot_zip_next (wpAny_call_entry F.slot_zip_next ty F.entry_zip_next ?_ (F.args_zip_next_1 _))))
  show wpAny _ _ (field (.ref z) 2 >>= _) _ _ _
  refine wpAny_bind (wpAny_field zz rfl (x := .bool false) rfl ?_)
  show wpAny _ _ (field (.ref z) 3 >>= _) _ _ _
  refine wpAny_bind (wpAny_field zz rfl (x := .ref TI) rfl ?_)
  refine wpAny_bind (wpAny_seqItems ti rfl ?_)
  show wpAny _ _ (Builtin.SmallTypes.ownedTupleIsFree (.ref z) >>= _) _ _ _
  refine wpAny_bind ?_
  unfold Builtin.SmallTypes.ownedTupleIsFree
  refine wpAny_bind (wpAny_field zz rfl (x := .none) rfl (wpAny_pure ?_))
  simp only [if_true]
  refine wpAny_bind (wpAny_rule ?_)
  refine wpAny_bind (wpAny_field zz rfl (x := .ref TO) rfl ?_)
  refine wpAny_bind (wpAny_setField_rec zz (by simp) fun ha zza sa => ?_)
  replace zza : IsZip ha z TI TO .ellipsis := zza
  refine wpAny_bind ?_
  simp only [List.zipIdx_cons, List.zipIdx_nil, List.forIn_cons, List.forIn_nil]
  refine wpAny_bind (wpAny_bind (wpAny_onRaise ?_))
  show wpAny _ _ (Builtin.SmallTypes.nextOf (.ref i1) >>= _) _ _ _
  refine wpAny_bind (its_end hh (j1.moved (fun o q => sa.extBut _ _ D.i1z q) fun o q => sa.extBut _ _ D.l1z q) hx fun hb e sb ex => ?_)
  obtain ⟨oe, eo, ec⟩ := ex
  have zzb : IsZip hb z TI TO .ellipsis := sb _ _ D.i1z.symm zza
  have ne : e ≠ z := fun x => by
    subst x
    rw [zzb] at eo
    cases eo
    simp at ec
  refine wpAny_setField_rec zzb (by simp) fun hc _ sc => ?_
  refine wpAny_bind (wpAny_isInstance (T := "StopIteration") (b := true) ⟨oe, sc.extBut _ _ ne eo, ec⟩ isSubtype_stop ?_)
  exact wpAny_pure (hQ _ fun c o c1 c2 c3 c4 x => sc.extBut _ _ c1 (sb _ _ c3 (sa.extBut _ _ c1 x)))
end
/-- the items of two rows as they stand at each turn, in new pairs -/
def RowV (K : PySem.W.Frag) (H : Hp) (a : Addr) (xs : List V) : Prop := SqL K H a xs ∨ SqT K H a xs
def ItzM (K : PySem.W.Frag) (a b : Addr) : It :=
  ⟨fun i H => ∃ (xs ys : List V) (x y : V), SqT K H a xs ∧ SqL K H b ys ∧ xs[i]? = some x ∧ ys[i]? = some y,
    fun i H v H' => ∃ T x y, v = .ref T ∧ H T = none ∧ H' = upd H T (.tup [x, y]) ∧ (∀ xs, SqT K H a xs → xs[i]? = some x) ∧ ∀ ys, SqL K H b ys → ys[i]? = some y,
    fun i H => ∃ xs : List V, SqT K H a xs ∧ xs.length ≤ i⟩
theorem turn_zipM {P : Program} {w : World} {K : PySem.W.Frag} {elts : List Expr} {kk : Nat} {tpos : Pos} {a b z TI TO i1 i2 : Addr} (D : ZipApart z TI TO i1 i2 a b) (n1 : i1 ≠ a) (n2 : i2 ≠ b) :
    Turn P w K (.Tuple elts kk tpos) (ItzM K a b) [z, TI, TO, i1, i2] z (fun i h => IsZip h z TI TO .none ∧ IsPair h TI (.ref i1) (.ref i2) ∧ (∃ x y, IsPair h TO x y) ∧ h.IsTupleIter i1 a i ∧ h.IsListIter i2 b i) where
  mem := by simp
  obj := fun i h st c hc => by
    obtain ⟨zz, ti, ⟨x, y, to⟩, ⟨o1, e1, _, d1⟩, ⟨o2, e2, _, d2⟩⟩ := st
    rcases (show c = z ∨ c = TI ∨ c = TO ∨ c = i1 ∨ c = i2 by simpa using hc) with rfl | rfl | rfl | rfl | rfl
    · exact ⟨_, zz, fun v q => nomatch q⟩
    · exact ⟨_, ti, fun v q => nomatch q⟩
    · exact ⟨_, to, fun v q => nomatch q⟩
    · exact ⟨o1, e1, fun v q => by rw [d1] at q; cases q⟩
    · exact ⟨o2, e2, fun v q => by rw [d2] at q; cases q⟩
  keep := fun i h h' st k => by
    obtain ⟨zz, ti, ⟨x, y, to⟩, j1, j2⟩ := st
    exact ⟨k z (by simp) _ zz, k TI (by simp) _ ti, ⟨x, y, k TO (by simp) _ to⟩, j1.at fun o q => k i1 (by simp) o q, j2.at fun o q => k i2 (by simp) o q⟩
  item := by
    intro X hP hw hK hc i pins s σ H E I hf st hg
    subst hP hw hK
    obtain ⟨zz, ti, ⟨x0, y0, to⟩, j1, j2⟩ := st
    obtain ⟨xs, ys, x, y, hqx, hqy, hx, hy⟩ := hg
    obtain ⟨its, rv, p, _⟩ := I.tuple hqx
    obtain ⟨its2, rv2, p2, _⟩ := I.list hqy
    obtain ⟨u, hu, ru⟩ := rv.get hx
    obtain ⟨u2, hu2, ru2⟩ := rv2.get hy
    have zlt : z < s.heap.objs.size := Heap.lt_size zz
    refine first_item (xs := its.toArray) (ys := its2.toArray) D zz ti to (.inr ⟨j1, p⟩) (.inl ⟨j2, p2.isList⟩) n1 n2 (x := u) (y := u2) (by simpa using hu) (by simpa using hu2) fun h' z' to' ja jb new hsz up => ?_
    refine ⟨_, rfl, wpAny_letOwnedTupleGo_zip (s := { s with heap := h' }) z' fun h'' z'' sb => ?_⟩
    have new2 : h''.get? s.heap.objs.size = some { cls := .type "tuple", data := .seq #[u, u2] } := (sb.2 _ (Nat.ne_of_gt zlt)).trans new
    have fresh : ObjOk X.prog X.w (upd H s.heap.objs.size (.tup [x, y])) h'' s.heap.objs.size (.tup [x, y]) := ⟨by show 2 ≤ sizeLine; decide, [u, u2], .cons ru (.cons ru2 .nil), ⟨_, new2, rfl, _, rfl⟩⟩
    have I1 : Inv X pins σ (upd H s.heap.objs.size (.tup [x, y])) { s with heap := h'' } :=
      I.turnedNew (t' := s.toks) (ch := [z, TI, TO, i1, i2]) (fun c o hb q => (sb.2 c (fun q' => hb (by simp [q']))).trans (up c o (fun q' => hb (by simp [q'])) (fun q' => hb (by simp [q'])) (fun q' => hb (by simp [q'])) (fun q' => hb (by simp [q'])) q)) hf (Nat.le_refl _) fresh
    have jl : ∀ {c : Addr} {l : Addr} {k : Nat}, h'.IsTupleIter c l k → c ≠ z → h''.IsTupleIter c l k := fun q ne => q.at fun o e => (sb.2 _ ne).trans e
    have jl2 : ∀ {c : Addr} {l : Addr} {k : Nat}, h'.IsListIter c l k → c ≠ z → h''.IsListIter c l k := fun q ne => q.at fun o e => (sb.2 _ ne).trans e
    refine ⟨.ref s.heap.objs.size, _, I1, rfl, ⟨_, x, y, rfl, I.hok.fresh (Nat.le_refl _), rfl, fun l hl => by rw [I.tuple_inj hl hqx]; exact hx, fun l hl => by rw [I.list_inj hl hqy]; exact hy⟩, ⟨z'', ?_, ⟨u, u2, ?_⟩, ?_, ?_⟩, fun c hcm => ?_⟩
    · exact (sb.2 _ D.TIz).trans (up _ _ D.TIz D.TITO D.TIi1 D.TIi2 ti)
    · exact (sb.2 _ D.TOz).trans to'
    · rcases ja with ⟨q, q2⟩ | ⟨q, _⟩
      · obtain ⟨o, e1, e2, _⟩ := q
        obtain ⟨o', e3, e4, _⟩ := j1
        exfalso
        obtain ⟨o5, e5, _⟩ := q2
        obtain ⟨o6, e6, e7, _⟩ := p
        have up6 := up _ _ D.l1z D.l1TO D.l1i1 D.l1i2 e6
        rw [up6] at e5
        cases e5
        simp_all
      · exact jl q D.i1z
    · rcases jb with ⟨q, _⟩ | ⟨q, q2⟩
      · exact jl2 q D.i2z
      · exfalso
        obtain ⟨o5, e5, e8, _⟩ := q2
        obtain ⟨o6, e6, e7, _⟩ := p2.isList
        have up6 := up _ _ D.l2z D.l2TO D.l2i1 D.l2i2 e6
        rw [up6] at e5
        cases e5
        simp_all
    · have lt : c < s.heap.objs.size := by
        rcases (show c = z ∨ c = TI ∨ c = TO ∨ c = i1 ∨ c = i2 by simpa using hcm) with rfl | rfl | rfl | rfl | rfl
        · exact zlt
        · exact Heap.lt_size ti
        · exact Heap.lt_size to
        · obtain ⟨_, e1, _⟩ := j1
          exact Heap.lt_size e1
        · obtain ⟨_, e2, _⟩ := j2
          exact Heap.lt_size e2
      rw [upd_ne (Nat.ne_of_lt lt)]
      exact (hf c hcm).1
  done := by
    intro X hP hw hK hc i pins s σ H E I hf st hg
    subst hP hw hK
    obtain ⟨zz, ti, ⟨x0, y0, to⟩, j1, j2⟩ := st
    obtain ⟨xs, hqx, hend⟩ := hg
    obtain ⟨its, rv, p, _⟩ := I.tuple hqx
    have len := rv.length
    exact first_end (I.ok.hd hc) D zz ti to (.inr ⟨j1, p⟩) (by simp; omega) fun h' hk => ⟨rfl, I.turnedL (t' := s.toks) (ch := [z, TI, TO, i1, i2]) (fun c o hb q =>
      hk c o (fun q' => hb (by simp [q'])) (fun q' => hb (by simp [q'])) (fun q' => hb (by simp [q'])) (fun q' => hb (by simp [q'])) q) hf⟩
  self := fun A i s Q E st h => wpAny_pyIter_zip st.1 h
/-! ### zip(t, xs) is made -/
abbrev mH1 (h : Heap) (l1 : Addr) : Heap := h.push { cls := .type "tuple_iterator", data := .fields #[.ref l1, .int 0 0] }
abbrev mH2 (h : Heap) (l1 l2 : Addr) : Heap := (mH1 h l1).push { cls := .type "list_iterator", data := .fields #[.ref l2, .int 0 0] }
abbrev mH3 (h : Heap) (l1 l2 : Addr) : Heap := (mH2 h l1 l2).push { cls := .type "tuple", data := .seq #[.ref h.objs.size, .ref (mH1 h l1).objs.size] }
abbrev mH4 (h : Heap) (l1 l2 : Addr) : Heap := (mH3 h l1 l2).push { cls := .type "tuple", data := .seq #[.none, .none] }
abbrev mH5 (h : Heap) (l1 l2 : Addr) : Heap := (mH4 h l1 l2).push { cls := .type "zip", data := .fields #[.none, .bool false, .bool false, .ref (mH2 h l1 l2).objs.size, .ref (mH3 h l1 l2).objs.size] }
theorem meets_zipM (l1 l2 : Addr) (xs ys : Array Value) :
    Meets (Builtin.«zip.__new__» ⟨[.type "zip", .ref l1, .ref l2], []⟩) (fun _ R s => s.heap.IsTuple l1 xs ∧ s.heap.IsList l2 ys ∧ R (.ok (.ret (.ref (mH4 s.heap l1 l2).objs.size))) { s with heap := mH5 s.heap l1 l2 }) :=
  .of_wp fun prog w A R s h => by
    obtain ⟨hp, g, d, tk, os⟩ := s
    obtain ⟨hl1, hl2, h⟩ := h
    have hsub := sub_zip
    have a1 : Heap.IsTuple (Shared.heap ⟨hp, g, d, tk, os⟩) l1 xs := hl1
    have a2 : Heap.IsList (Shared.heap ⟨hp.push { cls := .type "tuple_iterator", data := .fields #[.ref l1, .int 0 0] }, g, d, tk, os⟩) l2 ys := Heap.IsList.push hl2 _
    wp_walk using wpAny_pyIter_tuple a1, wpAny_pyIter_list a2
    exact ⟨_, rfl, h⟩
section
variable {prog : Program} {w : World} {A : Around} {E : Value → Shared → Prop} {s : Shared}
theorem call_zipM {l1 l2 : Addr} {xs ys : Array Value} {Q : Value → Shared → Prop} (hl1 : s.heap.IsTuple l1 xs) (hl2 : s.heap.IsList l2 ys)
    (h : ∀ h', IsZip h' (s.heap.objs.size + 4) (s.heap.objs.size + 2) (s.heap.objs.size + 3) .none → IsPair h' (s.heap.objs.size + 2) (.ref s.heap.objs.size) (.ref (s.heap.objs.size + 1)) →
      IsPair h' (s.heap.objs.size + 3) .none .none → h'.IsTupleIter s.heap.objs.size l1 0 → h'.IsListIter (s.heap.objs.size + 1) l2 0 → h'.objs.size = s.heap.objs.size + 5 → (∀ c o, s.heap.get? c = some o → h'.get? c = some o) → Q (.ref (s.heap.objs.size + 4)) { s with heap := h' }) :
    wpAny (model prog w) A (call (.type "zip") [.ref l1, .ref l2]) Q E s := by
  refine callType_new F.called_zip (by decide) (F.typeCall_zip_2 _ _) (F.newCall_zip_2 _ _) (fun obj => F.args_object_init_3 obj _ _) F.entry_zip_new (meets_zipM l1 l2 xs ys) ⟨hl1, hl2, ?_⟩
  have z1 : (mH1 s.heap l1).objs.size = s.heap.objs.size + 1 := Heap.size_push ..
  have z2 : (mH2 s.heap l1 l2).objs.size = s.heap.objs.size + 2 := by rw [Heap.size_push, z1]
  have z3 : (mH3 s.heap l1 l2).objs.size = s.heap.objs.size + 3 := by rw [Heap.size_push, z2]
  have z4 : (mH4 s.heap l1 l2).objs.size = s.heap.objs.size + 4 := by rw [Heap.size_push, z3]
  have z5 : (mH5 s.heap l1 l2).objs.size = s.heap.objs.size + 5 := by rw [Heap.size_push, z4]
  have g5 : (mH5 s.heap l1 l2).get? (mH4 s.heap l1 l2).objs.size = some _ := Heap.get?_push_size _ rfl
  have g4 : (mH5 s.heap l1 l2).get? (mH3 s.heap l1 l2).objs.size = some _ := Heap.get?_push_of_some _ (Heap.get?_push_size _ rfl)
  have g3 : (mH5 s.heap l1 l2).get? (mH2 s.heap l1 l2).objs.size = some _ := Heap.get?_push_of_some _ (Heap.get?_push_of_some _ (Heap.get?_push_size _ rfl))
  have g2 : (mH5 s.heap l1 l2).get? (mH1 s.heap l1).objs.size = some _ := Heap.get?_push_of_some _ (Heap.get?_push_of_some _ (Heap.get?_push_of_some _ (Heap.get?_push_size _ rfl)))
  have g1 : (mH5 s.heap l1 l2).get? s.heap.objs.size = some _ := Heap.get?_push_of_some _ (Heap.get?_push_of_some _ (Heap.get?_push_of_some _ (Heap.get?_push_of_some _ (Heap.get?_push_size _ rfl))))
  show _ ∧ _
  rw [z2, z3, z4] at g5
  rw [z1, z2] at g3
  rw [z3] at g4
  rw [z1] at g2
  rw [z4]
  exact ⟨⟨_, g5, rfl⟩, h _ g5 g3 g4 ⟨_, g1, rfl, rfl⟩ ⟨_, g2, rfl, rfl⟩ z5 fun c o x => Heap.get?_push_of_some _ (Heap.get?_push_of_some _ (Heap.get?_push_of_some _ (Heap.get?_push_of_some _ (Heap.get?_push_of_some _ x))))⟩
end
/-- for (x, y) in zip(t, u): t a tuple, u a list or a tuple -/
def iZipM (K : PySem.W.Frag) (ta : TA) : TI := fun σ H R => ta σ H fun vs H1 => ∃ a b xs ys, vs = [.ref a, .ref b] ∧ SqT K H1 a xs ∧ ((SqL K H1 b ys ∧ R (ItzM K a b) H1) ∨ (SqT K H1 b ys ∧ R (RZ.ItzT K a b) H1))
theorem pi_zipM {X : Cx} {e e2 : Expr} {ta : TA} {p pos tpos : Pos} {elts : List Expr} {kk : Nat} (hg : Gl X "zip") (hm : X.mg "zip" = none) (ha : PA X [e, e2] ta)
    (hs : starEach [e, e2] X.env = (false, eval e X.env) :: starEach [e2] X.env := by rfl) (hpl : (backTo pos (starEach [e2] X.env)).any (·.1) = false := by rfl) :
    PI X (.Tuple elts kk tpos) (.Call (.Name "zip" p) [e, e2] [] pos) (iZipM X.K ta) := by
  refine ⟨fun pins s σ H R I h => ?_⟩
  refine Call_ (ld_blt I hg hm PyProof.Rows.boot_zip (PyProof.Rows.callWith_type1 (thn (ha.run pos pins s σ H _ I h) fun us s1 ⟨vs, H1, I1, r1, q1⟩ => ?_) hs hpl))
  obtain ⟨a, b, xs, ys, ex, hqx, q1⟩ := q1
  subst ex
  cases r1 with
  | cons r rr =>
    cases rr with
    | cons r' rr =>
      cases rr
      cases r
      cases r'
      obtain ⟨its, rv, p1, _⟩ := I1.tuple hqx
      have la : a < s1.heap.objs.size := by
        obtain ⟨o1, ho1, _⟩ := id p1
        exact Heap.lt_size ho1
      have fresh5 : ∀ c, c ∈ [s1.heap.objs.size + 4, s1.heap.objs.size + 2, s1.heap.objs.size + 3, s1.heap.objs.size, s1.heap.objs.size + 1] → FpOk X pins H1 c := fun c hcm => by
        have hle : s1.heap.objs.size ≤ c := by
          rcases (show c = s1.heap.objs.size + 4 ∨ c = s1.heap.objs.size + 2 ∨ c = s1.heap.objs.size + 3 ∨ c = s1.heap.objs.size ∨ c = s1.heap.objs.size + 1 by simpa using hcm) with z | z | z | z | z <;> rw [z]
          · exact Nat.le_add_right _ _
          · exact Nat.le_add_right _ _
          · exact Nat.le_add_right _ _
          · exact Nat.le_refl _
          · exact Nat.le_add_right _ _
        exact I1.fpOk hle (I1.hok.fresh hle)
      rcases q1 with ⟨hqy, q⟩ | ⟨hqy, q⟩
      · obtain ⟨its2, rv2, p2, _⟩ := I1.list hqy
        have lb : b < s1.heap.objs.size := p2.lt
        refine call_zipM (show s1.heap.IsTuple a its.toArray from p1) p2.isList fun h' hz hTI hTO h1 h2 hsz hk => wpAny_pyIter_zip hz ?_
        have I2 : Inv X pins σ H1 { s1 with heap := h' } := I1.kept (t' := s1.toks) hk
        exact ⟨s1.heap.objs.size + 4, _, _, _, H1, rfl, I2, turn_zipM (PySem.W.ktu_apart s1.heap.objs.size a b la lb) (Nat.ne_of_gt la) (Nat.ne_of_gt (Nat.lt_of_lt_of_le lb (Nat.le_add_right _ _))), ⟨hz, hTI, ⟨_, _, hTO⟩, h1, h2⟩, fresh5, q⟩
      · obtain ⟨its2, rv2, p2, _⟩ := I1.tuple hqy
        have lb : b < s1.heap.objs.size := by
          obtain ⟨o1, ho1, _⟩ := id p2
          exact Heap.lt_size ho1
        refine RZ.call_zipT (show s1.heap.IsTuple a its.toArray from p1) (show s1.heap.IsTuple b its2.toArray from p2) fun h' hz hTI hTO h1 h2 hsz hk => wpAny_pyIter_zip hz ?_
        have I2 : Inv X pins σ H1 { s1 with heap := h' } := I1.kept (t' := s1.toks) hk
        exact ⟨s1.heap.objs.size + 4, _, _, _, H1, rfl, I2, RZ.turn_zipT (PySem.W.ktu_apart s1.heap.objs.size a b la lb), ⟨hz, hTI, ⟨_, _, hTO⟩, h1, h2⟩, fresh5, q⟩
/-- a loop over zip(t, u), of one length -/
theorem for_zipM {K : PySem.W.Frag} {ta : TA} {a b : Addr} {xs ys : List V} {g : TG} {tb : TS} {D : Ends} {σ : L2.St} {H H0 : Hp} (hz : ta σ H0 fun vs H1 => vs = [.ref a, .ref b] ∧ H1 = H) (hl : xs.length = ys.length) (Pv : Nat → L2.St → Hp → Prop) (h0 : Pv 0 σ H) (hx : ∀ i σ H, Pv i σ H → SqT K H a xs)
    (hy : (∀ i σ H, Pv i σ H → SqL K H b ys) ∨ ∀ i σ H, Pv i σ H → SqT K H b ys)
    (hs : ∀ (i : Nat) (x y : V) (T : Addr) (σ : L2.St) (H : Hp), xs[i]? = some x → ys[i]? = some y → Pv i σ H → H T = none → g (.ref T) σ (upd H T (.tup [x, y])) fun σ2 H2 => tb { D with nx := Pv (i + 1), ct := Pv (i + 1), bk := D.nx } σ2 H2) (hd : ∀ σ H, Pv xs.length σ H → D.nx σ H)
    (mono : ∀ {P Q : List V → Hp → Prop}, (∀ vs H, P vs H → Q vs H) → ta σ H0 P → ta σ H0 Q) : tFor (iZipM K ta) g tb D σ H0 := by
  refine mono (fun vs H1 e => ?_) hz
  obtain ⟨rfl, rfl⟩ := e
  rcases hy with hy | hy
  · refine ⟨a, b, xs, ys, rfl, hx 0 _ _ h0, .inl ⟨hy 0 _ _ h0, fun i m σ H => m = xs.length - i ∧ i ≤ xs.length ∧ Pv i σ H, ⟨xs.length, rfl, Nat.zero_le _, h0⟩, ?_⟩⟩
    rintro i m σ H ⟨rfl, hi, p⟩
    have qx := hx i σ H p
    have qy := hy i σ H p
    by_cases lt : i < xs.length
    · refine .inr ⟨⟨xs, ys, _, _, qx, qy, List.getElem?_eq_getElem lt, List.getElem?_eq_getElem (by omega)⟩, Pv (i + 1), fun σ' H' p' => ⟨xs.length - (i + 1), by omega, rfl, lt, p'⟩, fun v H' y => ?_⟩
      obtain ⟨T, x', y', rfl, hT, rfl, f1, f2⟩ := y
      exact hs i x' y' T σ H (f1 xs qx) (f2 ys qy) p hT
    · have e : i = xs.length := by omega
      subst e
      exact .inl ⟨⟨xs, qx, Nat.le_refl _⟩, hd σ H p⟩
  · exact ⟨a, b, xs, ys, rfl, hx 0 _ _ h0, .inr ⟨hy 0 _ _ h0, RZ.for_zipT hl Pv h0 (fun i σ H p => ⟨hx i σ H p, hy i σ H p⟩) hs hd⟩⟩
end L2.Zm

/-! Frames. -/
namespace L2.Hx
open PySem PySem.Spec PyProof.Rows
abbrev fAt : List Str := ["name", "goal", "worths", "todo"]
/-- a Frame's class, whole -/
structure FrS (K : PySem.W.Frag) (mg : Str → Option Value) (C : Addr) : Prop where
  k : ClsT K mg "Frame" fAt C
  i0 : ∃ f fd, SrcI K C "Frame.__init__" s_Frame___init__ ["self", "function", "args", "goal"] f fd
  m1 : ∃ f fd, SrcM K C "begin" "Frame.begin" s_Frame_begin ["self", "statements", "above"] f fd
  m2 : ∃ f fd, SrcM K C "begin_inner" "Frame.begin_inner" s_Frame_begin_inner ["self", "way", "statement", "holding"] f fd
def itD (q : List Int × Ss) : PyData := .tuple [wayD q.1, ssD q.2]
def fF (nm : Str) (gv : V) (wd td : Addr) : List (Str × V) := [("name", .str nm), ("goal", gv), ("worths", .ref wd), ("todo", .ref td)]
theorem fF_name {nm : Str} {gv : V} {wd td : Addr} : (fF nm gv wd td).lookup ("name" : Str) = some (V.str nm) := rfl
theorem fF_goal {nm : Str} {gv : V} {wd td : Addr} : (fF nm gv wd td).lookup ("goal" : Str) = some gv := rfl
theorem fF_worths {nm : Str} {gv : V} {wd td : Addr} : (fF nm gv wd td).lookup ("worths" : Str) = some (V.ref wd) := rfl
theorem fF_todo {nm : Str} {gv : V} {wd td : Addr} : (fF nm gv wd td).lookup ("todo" : Str) = some (V.ref td) := rfl
theorem queF_len (way : List Int) : ∀ (i : Nat) (ss : List Ss), (queF way i ss).length = ss.length
  | _, [] => rfl
  | i, s :: r => by rw [queF, List.length_cons, queF_len way (i + 1) r]; rfl
theorem queF_at (way : List Int) : ∀ (i : Nat) (ss : List Ss) (j : Nat) (s : Ss), ss[j]? = some s → (queF way i ss)[j]? = some (way ++ [((i + j : Nat) : Int)], s)
  | _, [], _, _, h => by cases h
  | i, s :: r, 0, _, h => by
    rw [List.getElem?_cons_zero] at h
    cases h
    rfl
  | i, s :: r, j + 1, t, h => by
    rw [List.getElem?_cons_succ] at h
    rw [queF, List.getElem?_cons_succ, queF_at way (i + 1) r j t h, show i + 1 + j = i + (j + 1) by omega]
/-- what is still to be done, the next one last -/
def TodoAt (K : PySem.W.Frag) (G H : Hp) (td : Addr) (q : List (List Int × Ss)) : Prop := ∃ ts, H td = some (.lst ts) ∧ DaAll K G ts (q.reverse.map itD)
theorem Ext.o' {O : List Addr} {p l : Addr} {G H G1 H1 : Hp} (e : Ext p l G H G1 H1) : ExtO O p l G H G1 H1 := e.o
theorem Wd.insp {p l a C dx : Addr} {fs : List (Str × V)} {G H : Hp} (W : Wd p l G H) (h : H a = some (.ins C dx fs)) : a ≠ p := by
  obtain ⟨_, _, _, _, h1⟩ := W.dk
  intro e
  rw [e, h1] at h
  cases h
theorem Wd.insl {p l a C dx : Addr} {fs : List (Str × V)} {G H : Hp} (W : Wd p l G H) (h : H a = some (.ins C dx fs)) : a ≠ l := by
  obtain ⟨_, _, h1⟩ := W.ls
  intro e
  rw [e, h1] at h
  cases h
theorem Wd.dkp {p l a : Addr} {kvs : List (Key × V)} {G H : Hp} (W : Wd p l G H) (h : H a = some (.dK kvs)) : a ≠ p := by
  obtain ⟨_, _, _, _, h1⟩ := W.dk
  intro e
  rw [e, h1] at h
  cases h
theorem Wd.dkl {p l a : Addr} {kvs : List (Key × V)} {G H : Hp} (W : Wd p l G H) (h : H a = some (.dK kvs)) : a ≠ l := by
  obtain ⟨_, _, h1⟩ := W.ls
  intro e
  rw [e, h1] at h
  cases h
theorem DaAll.reverse {K : PySem.W.Frag} {G : Hp} : ∀ {vs : List V} {ds : List PyData}, DaAll K G vs ds → DaAll K G vs.reverse ds.reverse
  | _, _, .nil => .nil
  | _, _, .cons h t => by
    rw [List.reverse_cons, List.reverse_cons]
    exact (DaAll.reverse t).append (.cons h .nil)
def spBegin (K : PySem.W.Frag) (C : Addr) : Sp := fun vs H Q _ => ∃ (p l a dx wd td : Addr) (G : Hp) (nm : Str) (gv sv wv : V) (ss : List Ss) (way : List Int) (q : List (List Int × Ss)), vs = [.ref a, sv, wv] ∧ Wd p l G H ∧ H a = some (.ins C dx (fF nm gv wd td)) ∧ TodoAt K G H td q ∧ td ≠ p ∧ td ≠ l ∧ G td = none ∧
  Da K G sv (.tuple (slD ss)) ∧ Da K G wv (wayD way) ∧ ss.length ≤ 1000 ∧ way.length ≤ 1000 ∧ q.length ≤ 1000000 ∧ ∀ G' H', ExtO [td] p l G H G' H' → TodoAt K G' H' td (queF way 0 ss ++ q) → G' td = none → Q .non H'
section
variable {P : Program} {w : World} {K : PySem.W.Frag} {mg : Str → Option Value} {base : Heap} {C : Addr}
theorem D_begin (T : Txt K mg) (S : FrS K mg C) : DfM P w K mg base 1 C "begin" ["self", "statements", "above"] (spBegin K C) := by
  have kFrame := S.k
  obtain ⟨f, fd, Sm⟩ := S.m1
  refine DfM.mk' (k := 0) Sm sc_Frame_begin (fun vs H Q E h => ?_) (fun cdv A outer s H vs Q E hgd hr h => ?_)
  · obtain ⟨p, l, a, dx, wd, td, G, nm, gv, sv, wv, ss, way, q, rfl, _⟩ := h
    rfl
  · obtain ⟨p, l, a, dx, wd, td, G, nm, gv, sv, wv, ss, way, q, rfl, W, ha, ⟨ts, ht, dts⟩, tp, tl, gt, dsv, dwv, ls, lw, lq, kk⟩ := h
    have big : (1100000 : Nat) ≤ sizeLine := by decide
    refine ⟨_, (pss_cons (ps_setLc (i := 3) (X := (cxOf CX0 P w K mg base ["self", "statements", "above", "rows", "place", "statement"] "Frame.begin" (defScope s_Frame_begin) f cdv A outer s H E).nox) (own := [("place", 4), ("statement", 5)]) (g := gTup K 2 (gCons (gName 4) (gCons (gName 5) gNil))) (te := tTup (tCons (tOp (rCatA K) (tVar 2) (tTup (tCons (tVar 4) tNil))) (tCons (tVar 5) tNil))) (tt := tYes) rfl sc_Frame_begin.nd rfl rfl (sw_true rfl rfl rfl (by decide +kernel)) (pi_enumT rfl T.b_enumerate (pa_cons (pv 1) pa_nil)) (blkOk_by (own := [("place", 4), ("statement", 5)]) (N := ["self", "statements", "above", "rows", "place", "statement"]) (sc := defScope s_Frame_begin) (by decide +kernel)) (fun _ _ _ _ _ => pg_tup rfl (pgs_cons (pg_name (i := 4) sc_Frame_begin.nd rfl (.inl rfl)) (pgs_cons (pg_name (i := 5) sc_Frame_begin.nd rfl (.inl rfl)) pgs_nil))) (fun _ _ _ _ _ => pts_nil) (fun _ _ _ _ _ => (pe_tup (pa_cons (pe_op op_catA (pv 2) (pe_tup (pa_cons (pv 4) pa_nil))) (pa_cons (pv 5) pa_nil)))))
      (pss_one (ps_expr (pe_bm PySem.F.plainAttrs_list PySem.F.slot_list_extend PySem.F.type_list_extend mt_extend (pe_fld (pv 0) rfl) (pa_cons (pe_revL (pv 3)) pa_nil))))), ?_⟩
    have hl := slD_map ss
    have L1 : TX K p l [some (.ref a), some sv, some wv, none, none, none] G (tLc (iEnumT K (tCons (tVar 1) tNil)) (gTup K 2 (gCons (gName 4) (gCons (gName 5) gNil))) tYes (tTup (tCons (tOp (rCatA K) (tVar 2) (tTup (tCons (tVar 4) tNil))) (tCons (tVar 5) tNil))) [4, 5]) (.list ((queF way 0 ss).map itD)) := by
      refine tx_lcE (td_is rfl dsv) (by rw [hl, List.length_map, List.length_map, queF_len]) (by rw [hl, List.length_map]; omega) fun i d u x T G3 H3 R hd hu dx3 w3 s3 hT kk => ?_
      rw [List.getElem?_map] at hd
      obtain ⟨qi, hq, rfl⟩ := Option.map_eq_some_iff.mp hd
      rw [hl, List.getElem?_map] at hu
      obtain ⟨si, hs, rfl⟩ := Option.map_eq_some_iff.mp hu
      rw [queF_at way 0 ss i si hs, Nat.zero_add] at hq
      cases hq
      refine ⟨T, _, rfl, SqT.of hT, rfl, _, _, rfl, _, _, rfl, rfl, rfl, ?_⟩
      have s2 : Same G G3 := s3
      refine (tx_tup (tx_cons (tx_catA (td_is rfl (dwv.mono s2)) (tx_tup (tx_cons (td_is rfl (Da.int _)) tx_nil) (show 1 ≤ sizeLine by decide)) ?_) (tx_cons (td_is rfl dx3) tx_nil)) (show 2 ≤ sizeLine by decide)) G3 H3 R w3 (Same.refl G3) fun v d G4 H4 e4 dd f => ?_
      · rw [List.length_map]
        show way.length + 1 ≤ _
        omega
      · subst f
        refine kk v G4 H4 e4 ?_
        unfold itD wayD
        rw [List.map_append]
        exact dd
    refine L1.asg W fun v d G1 H1 e1 d1 f1 => ?_
    subst f1
    cases d1 with
    | @lst r xs _ hr dxs =>
    have len := dxs.length
    rw [List.length_map, queF_len] at len
    have lts := dts.length
    rw [List.length_map, List.length_reverse] at lts
    have ha1 := e1.keep a _ (W.insp ha) (W.insl ha) ha
    have ht1 := e1.keep td _ tp tl ht
    refine ⟨_, rfl, a, C, dx, _, _, rfl, ha1, kFrame.cl, kFrame.no.get (by decide), fF_todo, .inl ⟨rfl, _, SqL.of ht1⟩, _, rfl, r, xs, rfl, SqL.of (e1.w.same _ _ hr), fun b hb => ?_⟩
    have e2 := e1.w.tmp (o := .lst xs.reverse) hb
    have nb : td ≠ b := fun e => by rw [e, hb] at ht1; cases ht1
    have g1 := e1.new _ _ ht gt
    refine ⟨td, b, ts, xs.reverse, rfl, rfl, by rw [upd_ne nb]; exact ht1, upd_same, by rw [List.length_reverse]; omega, ?_⟩
    have e3 : ExtO [td] p l G1 (upd H1 b (.lst xs.reverse)) G1 _ := ExtO.own (o := .lst (ts ++ xs.reverse)) e2.w (List.mem_singleton.mpr rfl) tp tl g1
    refine kk G1 _ ((e1.trans W e2).o.trans e3 fun c m q => ?_) ⟨_, upd_same, ?_⟩ g1
    · exact q
    · rw [List.reverse_append, List.map_append, List.map_reverse (l := queF way 0 ss)]
      exact (dts.mono e1.sub).append dxs.reverse
end
end L2.Hx

/-! What stands in an if or a while is begun; first worths. -/
namespace L2.Hx
open PySem PySem.Spec PyProof.Rows
def inF (way : List Int) (h : Bool) : Ss → List (List Int × Ss)
  | .ite _ a b => queF (way ++ [if h then 0 else 1]) 0 (if h then a else b)
  | .whl t k a => if h then queF (way ++ [0]) 0 a ++ [(way, .whl t k a)] else []
  | _ => []
def few1000 : Ss → Prop
  | .ite _ a b => a.length ≤ 1000 ∧ b.length ≤ 1000
  | .whl _ _ a => a.length ≤ 1000
  | _ => False
def spInner (K : PySem.W.Frag) (C : Addr) : Sp := fun vs H Q _ => ∃ (p l a dx wd td : Addr) (G : Hp) (nm : Str) (gv sv wv : V) (s : Ss) (h : Bool) (way : List Int) (q : List (List Int × Ss)), vs = [.ref a, wv, sv, .bl h] ∧ Wd p l G H ∧ H a = some (.ins C dx (fF nm gv wd td)) ∧ TodoAt K G H td q ∧ td ≠ p ∧ td ≠ l ∧ G td = none ∧
  Da K G sv (ssD s) ∧ Da K G wv (wayD way) ∧ few1000 s ∧ way.length ≤ 900 ∧ q.length ≤ 900000 ∧ ∀ G' H', ExtO [td] p l G H G' H' → TodoAt K G' H' td (inF way h s ++ q) → G' td = none → Q .non H'
section
variable {P : Program} {w : World} {K : PySem.W.Frag} {mg : Str → Option Value} {base : Heap} {C : Addr}
theorem D_inner (T : Txt K mg) (S : FrS K mg C) : DfM P w K mg base 2 C "begin_inner" ["self", "way", "statement", "holding"] (spInner K C) := by
  have kFrame := S.k
  have D_Frame_begin := D_begin (P := P) (w := w) (base := base) T S
  obtain ⟨f, fd, Sm⟩ := S.m2
  refine DfM.mk' (k := 1) Sm sc_Frame_begin_inner (fun vs H Q E h => ?_) (fun cdv A outer s H vs Q E hgd hr h => ?_)
  · obtain ⟨p, l, a, dx, wd, td, G, nm, gv, sv, wv, s, h, way, q, rfl, _⟩ := h
    rfl
  · obtain ⟨p, l, a, dx, wd, td, G, nm, gv, sv, wv, st, hold, way, q, rfl, W, ha, tt, tp, tl, gt, dsv, dwv, fw, lw, lq, kk⟩ := h
    have big : (1100000 : Nat) ≤ sizeLine := by decide
    have bodyT : ∀ σ : St, σ[1]? = some (some wv) → ∀ z : Int, TX K p l σ G (tOp (rCatA K) (tVar 1) (tTup (tCons (tC (.int z)) tNil))) (wayD (way ++ [z])) := fun σ h z => by
      unfold wayD
      rw [List.map_append]
      exact tx_catA (td_is h dwv) (tx_tup (tx_cons tx_int tx_nil) (show 1 ≤ sizeLine by decide)) (by rw [List.length_map]; show way.length + 1 ≤ _; omega)
    refine ⟨_, (pss_one (ps_if (pt_cmpR op_eq (pe_ix ix_tup (pv 2) pe_int (fun _ _ => rfl)) pe_str (nomark _)) (pss_cons (ps_set (i := 4) sc_Frame_begin_inner.nd rfl (.inl rfl) (pe_ifExp (pt_val (pv 3)) pe_int pe_int))
      (pss_one (ps_expr (pe_m D_Frame_begin kFrame.cl hgd hr (pv 0) (pa_cons (pe_ix ix_tup (pv 2) (pe_op op_add pe_int (pv 4)) (fun _ _ => rfl)) (pa_cons (pe_op op_catA (pv 1) (pe_tup (pa_cons (pv 4) pa_nil))) pa_nil)))))) (pss_one (ps_if (pt_val (pv 3)) (pss_cons (ps_expr (pe_bm PySem.F.plainAttrs_list PySem.F.slot_list_append PySem.F.type_list_append mt_append (pe_fld (pv 0) rfl) (pa_cons (pe_tup (pa_cons (pv 1) (pa_cons (pv 2) pa_nil))) pa_nil)))
      (pss_one (ps_expr (pe_m D_Frame_begin kFrame.cl hgd hr (pv 0) (pa_cons (pe_ix ix_tup (pv 2) pe_int (fun _ _ => rfl)) (pa_cons (pe_op op_catA (pv 1) (pe_tup (pa_cons pe_int pa_nil))) pa_nil)))))) pss_nil)))), ?_⟩
    cases st with
    | op o => exact fw.elim
    | call x f as sp => exact fw.elim
    | ite t x y =>
      obtain ⟨f1, f2⟩ := fw
      rw [ssD] at dsv
      obtain ⟨A1, xs, rfl, sq, dxs⟩ := dsv.tupI
      cases dxs with | cons e1 t1 => cases t1 with | cons e2 t2 => cases t2 with | cons e3 t3 => cases t3 with | cons e4 t4 =>
      cases t4; cases e1
      have sq := sameT W.same sq
      refine ix_at rfl sq ⟨rfl, _, rfl, if_yes (decide_eq_true rfl) ?_⟩
      have L2 : TX K p l [some (.ref a), some wv, some (.ref A1), some (.bl hold), some (.int (if hold then 0 else 1))] G (tOp (rCatA K) (tVar 1) (tTup (tCons (tVar 4) tNil))) (wayD (way ++ [if hold then 0 else 1])) := by
        unfold wayD
        rw [List.map_append]
        exact tx_catA (td_is rfl dwv) (tx_tup (tx_cons (td_is rfl (Da.int _)) tx_nil) (show 1 ≤ sizeLine by decide)) (by rw [List.length_map]; show way.length + 1 ≤ _; omega)
      cases hold with
      | true =>
        refine ⟨_, rfl, _, rfl, if_yes rfl ?_⟩
        dsimp only [gName, List.set]
        refine ⟨_, rfl, a, dx, _, rfl, ha, rfl, _, rfl, _, rfl, _, _, rfl, rfl, ?_⟩
        refine ⟨A1, _, _, _, rfl, rfl, sq, rfl, ?_⟩
        refine L2 G H _ W (Same.refl G) fun v d G1 H1 x1 d1 ff => ?_
        subst ff
        obtain ⟨ts, ht, dts⟩ := tt
        exact ⟨p, l, a, dx, wd, td, G1, nm, gv, _, v, x, way ++ [0], q, rfl, x1.w, x1.keep a _ (W.insp ha) (W.insl ha) ha, ⟨ts, x1.keep td _ tp tl ht, dts.mono x1.sub⟩, tp, tl, x1.new _ _ ht gt, e3.mono x1.sub, d1, f1, by rw [List.length_append]; show way.length + 1 ≤ _; omega, by omega, fun G2 H2 x2 tt2 g2 => kk G2 H2 ((x1.o).trans x2 fun c m _ => by rw [List.mem_singleton.mp m]; exact g2) tt2 g2⟩
      | false =>
        refine ⟨_, rfl, _, rfl, if_no rfl ?_⟩
        dsimp only [gName, List.set]
        refine ⟨_, rfl, a, dx, _, rfl, ha, rfl, _, rfl, _, rfl, _, _, rfl, rfl, ?_⟩
        refine ⟨A1, _, _, _, rfl, rfl, sq, rfl, ?_⟩
        refine L2 G H _ W (Same.refl G) fun v d G1 H1 x1 d1 ff => ?_
        subst ff
        obtain ⟨ts, ht, dts⟩ := tt
        exact ⟨p, l, a, dx, wd, td, G1, nm, gv, _, v, y, way ++ [1], q, rfl, x1.w, x1.keep a _ (W.insp ha) (W.insl ha) ha, ⟨ts, x1.keep td _ tp tl ht, dts.mono x1.sub⟩, tp, tl, x1.new _ _ ht gt, e4.mono x1.sub, d1, f2, by rw [List.length_append]; show way.length + 1 ≤ _; omega, by omega, fun G2 H2 x2 tt2 g2 => kk G2 H2 ((x1.o).trans x2 fun c m _ => by rw [List.mem_singleton.mp m]; exact g2) tt2 g2⟩
    | whl t k x =>
      have dsv0 := dsv
      rw [ssD] at dsv
      obtain ⟨A1, xs, rfl, sq, dxs⟩ := dsv.tupI
      cases dxs with | cons e1 t1 => cases t1 with | cons e2 t2 => cases t2 with | cons e3 t3 => cases t3 with | cons e4 t4 =>
      cases t4; cases e1
      have sq0 := sq
      have sq := sameT W.same sq
      refine ix_at rfl sq ⟨rfl, _, rfl, if_no rfl ?_⟩
      cases hold with
      | false => exact ⟨_, rfl, _, rfl, if_no rfl (kk G H (Ext.refl W).o tt gt)⟩
      | true =>
        refine ⟨_, rfl, _, rfl, if_yes rfl ?_⟩
        obtain ⟨ts, ht, dts⟩ := tt
        have L3 : TX K p l [some (.ref a), some wv, some (.ref A1), some (.bl true), none] G (tTup (tCons (tVar 1) (tCons (tVar 2) tNil))) (itD (way, .whl t k x)) := tx_tup (tx_cons (td_is rfl dwv) (tx_cons (td_is rfl dsv0) tx_nil)) (show 2 ≤ sizeLine by decide)
        refine ⟨_, rfl, a, C, dx, _, _, rfl, ha, kFrame.cl, kFrame.no.get (by decide), fF_todo, .inl ⟨rfl, _, SqL.of ht⟩, L3 G H _ W (Same.refl G) fun v d G1 H1 x1 d1 ff => ?_⟩
        subst ff
        have ht1 := x1.keep td _ tp tl ht
        have g1 := x1.new _ _ ht gt
        have lts := dts.length
        rw [List.length_map, List.length_reverse] at lts
        have x2 : ExtO [td] p l G1 H1 G1 _ := ExtO.own (o := .lst (ts ++ [v])) x1.w (List.mem_singleton.mpr rfl) tp tl g1
        have X := (x1.o (O := [td])).trans x2 fun c m _ => by rw [List.mem_singleton.mp m]; exact g1
        have nta : a ≠ td := fun e => by rw [e, ht] at ha; cases ha
        have ha2 : (upd H1 td (.lst (ts ++ [v]))) a = some (.ins C dx (fF nm gv wd td)) := by
          rw [upd_ne nta]
          exact x1.keep a _ (W.insp ha) (W.insl ha) ha
        refine ⟨td, ts, v, rfl, rfl, ht1, by omega, ?_⟩
        have dts2 : DaAll K G1 (ts ++ [v]) (((way, Ss.whl t k x) :: q).reverse.map itD) := by
          rw [List.reverse_cons, List.map_append]
          exact (dts.mono x1.sub).append (.cons d1 .nil)
        refine ⟨_, rfl, a, dx, _, rfl, ha2, rfl, _, rfl, A1, _, _, _, rfl, rfl, sameT (X.sub.trans X.w.same) sq0, rfl, ?_⟩
        refine bodyT [some (.ref a), some wv, some (.ref A1), some (.bl true), none] rfl 0 G1 _ _ X.w X.sub fun v2 d2 G3 H3 x3 d3 ff => ?_
        subst ff
        have ht2 : (upd H1 td (.lst (ts ++ [v]))) td = some (.lst (ts ++ [v])) := upd_same
        exact ⟨p, l, a, dx, wd, td, G3, nm, gv, _, v2, x, way ++ [0], (way, .whl t k x) :: q, rfl, x3.w, x3.keep a _ (X.w.insp ha2) (X.w.insl ha2) ha2, ⟨_, x3.keep td _ tp tl ht2, dts2.mono x3.sub⟩, tp, tl, x3.new _ _ ht2 g1, e4.mono (X.sub.trans x3.sub), d3, fw, by rw [List.length_append]; show way.length + 1 ≤ _; omega, by rw [List.length_cons]; omega, fun G4 H4 x4 tt4 g4 => kk G4 H4 ((X.trans x3.o fun c m _ => by rw [List.mem_singleton.mp m]; exact x3.new _ _ ht2 g1).trans x4 fun c m _ => by rw [List.mem_singleton.mp m]; exact g4) (by
          show TodoAt K G4 H4 td ((queF (way ++ [0]) 0 x ++ [(way, Ss.whl t k x)]) ++ q)
          rw [List.append_assoc]
          exact tt4) g4⟩
end
end L2.Hx

/-! name = {k: v for ..} on one line, the name a local. -/
namespace L2
open PySem PySem.Spec PyProof.Rows
section
variable {X : Cx}
theorem ps_setDc {i : Nat} {y : Str} {py : Pos} {kx vx tg iter : Expr} {ifs : List Expr} {scope : Scope} {own : List (Str × Nat)} {pos spos : Pos} {wi : TI} {g : TG} {tt : TT} {tk tv : TE} (hc : X.calm = true) (hN : X.N.Nodup) (hy : X.N[i]? = some y) (hyl : X.env.scope.names.lookup y = some .local)
    (hsw : swapsWith (.DictComp kx vx [⟨tg, iter, ifs, 0⟩] scope pos) (some (.Name y py)) spos.line X.env = pure true) (hi : PI X tg iter wi) (ok : BlkOk X.N X.env.scope scope own)
    (hg : ∀ (s : Shared) (H : Hp) (C : Addr) (cl : List (Str × Addr)) (fp : List Addr), PG (X.blk s H scope (compEnvC scope cl C X.env) fp) tg g) (ht : ∀ (s : Shared) (H : Hp) (C : Addr) (cl : List (Str × Addr)) (fp : List Addr), PTs (X.blk s H scope (compEnvC scope cl C X.env) fp) ifs tt)
    (hk : ∀ (s : Shared) (H : Hp) (C : Addr) (cl : List (Str × Addr)) (fp : List Addr), PE (X.blk s H scope (compEnvC scope cl C X.env) fp) kx tk)
    (he : ∀ (s : Shared) (H : Hp) (C : Addr) (cl : List (Str × Addr)) (fp : List Addr), PE (X.blk s H scope (compEnvC scope cl C X.env) fp) vx tv) (hs : ∀ x, foldedSetIterable iter X.env x = pure x := by intro _; rfl) :
    PS X (.Assign [.Name y py] (.DictComp kx vx [⟨tg, iter, ifs, 0⟩] scope pos) spos) (tAsg (tDc wi g tt tk tv (own.map (·.2))) (gName i)) := by
  refine ⟨fun pins s σ H D I h => ?_⟩
  rw [exec_Assign_Name_used _ _ _ _ hsw]
  refine wpAny_bind (wpAny_standAt (wpAny_bind ?_))
  show wpAny _ X.A (do let _ ← comprehension (.DictComp kx vx [⟨tg, iter, ifs, 0⟩] scope pos) scope X.env (firstIterPos [⟨tg, iter, ifs, 0⟩] pos) newDict false (eval iter X.env) (some (assign (.Name y py) X.env))) _ _ s
  have h : tDc wi g tt tk tv (own.map (·.2)) σ H (fun x H1 => gName i x σ H1 D.nx) := h
  refine wpAny_bind (thn (dc_core (Qf := fun _ s' => SP X pins D .next s') hc hN I hi ok hg ht hk he hs h fun L C s' m H' I' q hn f => ?_) fun _ s' hq => wpAny_pure (wpAny_pure hq))
  show wpAny _ _ (assign (.Name y py) X.env (.ref L)) _ _ _
  refine wpAny_assign_Name (store_ok2 (v := V.ref L) I' hN hy (.inl hyl) rfl (fun s2 I2 ⟨a, sb, ha⟩ => ?_) (.inr hyl))
  obtain ⟨f0, f1, f2, f3, f4, f5⟩ := f
  have haC : C ≠ a := by
    rcases ha with z | z
    · rw [z]; exact f1
    · exact fun e => f4 y a z e.symm
  refine ⟨m, hn.sameBut sb haC, fun h3 sb3 => ?_⟩
  exact ⟨_, H', I2.turned (t' := s2.toks) (fun b o hb e => (sb3.2 b hb).trans e) f0 f1 f3 f4 f5, q⟩
theorem sw_trueD {kx vx : Expr} {gs : List Comprehension} {scope : Scope} {pos py : Pos} {y : Str} {l : Nat} {env : Env} (hk : env.scope.kind = .function) (hy : env.scope.names.lookup y = some .local) (hl : (py.line == pos.line) = true)
    (ha : (scope.names.any fun (n, k) => n == y && (k == .local || k == .cell)) = false) : swapsWith (.DictComp kx vx gs scope pos) (some (.Name y py)) l env = pure true := by
  have ky : env.kindOf y = some .local := hy
  have hb : env.blockKind = .function := by unfold Env.blockKind; rw [hk]; rfl
  unfold swapsWith
  simp only [hb, ky, ha, Expr.pos, hl]
  rfl
end
end L2

/-! What terms are worth when a function begins. -/
namespace L2.Hx
open PySem PySem.Spec PyProof.Rows
theorem da_strsL {K : PySem.W.Frag} {G : Hp} : ∀ {vs : List V} {ns : List Str}, DaAll K G vs (ns.map .str) → vs = ns.map V.str
  | _, [], .nil => rfl
  | _, n :: ns, .cons h t => by
    cases h
    rw [da_strsL t]
    rfl
theorem updupd {H : Hp} {a : Addr} {o o2 : HO} : upd (upd H a o) a o2 = upd H a o2 := by
  funext b
  by_cases h : b = a
  · subst h
    rw [upd_same, upd_same]
  · rw [upd_ne h, upd_ne h, upd_ne h]
def spWorths (K : PySem.W.Frag) : Sp := fun vs H Q _ => ∃ (p l Ar : Addr) (G : Hp) (vp vw : V) (ps ws : List Str) (vals : List Int), vs = [vp, vw, .ref Ar] ∧ Wd p l G H ∧ Da K G vp (.tuple (ps.map .str)) ∧ Da K G vw (.tuple (ws.map .str)) ∧
  ((H Ar = some (.lst (vals.map V.int)) ∧ Ar ≠ p ∧ Ar ≠ l) ∨ SqT K G Ar (vals.map V.int)) ∧ ps.length = vals.length ∧ ps.length ≤ 400 ∧ ws.length ≤ 400 ∧
  ∀ D G' H', Ext p l G H G' H' → H D = none → G' D = none → WoAt H' D ("nil" :: "result" :: (ws ++ ps)) (wf0 ps vals) → Q (.ref D) H'
section
variable {P : Program} {w : World} {K : PySem.W.Frag} {mg : Str → Option Value} {base : Heap} {C : Addr}
theorem D_worths (T : Txt K mg) : Df P w K mg base 1 "first_worths" ["params", "wheres", "args"] (spWorths K) := by
  obtain ⟨f, fd, Sd⟩ := T.d_first_worths
  refine Df.mk' (k := 0) Sd sc_first_worths (fun vs H Q E h => ?_) (fun cdv A outer s H vs Q E hgd hr h => ?_)
  · obtain ⟨p, l, Ar, G, vp, vw, ps, ws, vals, rfl, _⟩ := h
    rfl
  · obtain ⟨p, l, Ar, G, vp, vw, ps, ws, vals, rfl, W, dpv, dwv, hA, hlen, lp, lw, kk⟩ := h
    have hu := hu_of hr
    have big : (1100000 : Nat) ≤ sizeLine := by decide
    refine ⟨_, (pss_cons (ps_setDc (i := 3) (X := (cxOf CX0 P w K mg base ["params", "wheres", "args", "worths", "name", "value"] "first_worths" (defScope s_first_worths) f cdv A outer s H E).nox) (own := [("name", 4)]) (g := gName 4) (tt := tYes) rfl sc_first_worths.nd rfl rfl (sw_trueD rfl rfl rfl (by decide +kernel)) (pi_tup (pe_op op_catA (pe_tup (pa_cons pe_str (pa_cons pe_str pa_nil))) (pv 1))) (blkOk_by (own := [("name", 4)]) (N := ["params", "wheres", "args", "worths", "name", "value"]) (sc := defScope s_first_worths) (by decide +kernel)) (fun _ _ _ _ _ => pg_name (i := 4) sc_first_worths.nd rfl (.inl rfl)) (fun _ _ _ _ _ => pts_nil) (fun _ _ _ _ _ => (pv 4)) (fun _ _ _ _ _ => pe_int))
      (pss_cons (ps_for PassesOwn.never rfl (Zm.pi_zipM rfl T.b_zip (pa_cons (pv 0) (pa_cons (pv 2) pa_nil))) (pg_tup rfl (pgs_cons (pg_name (i := 4) sc_first_worths.nd rfl (.inl rfl)) (pgs_cons (pg_name (i := 5) sc_first_worths.nd rfl (.inl rfl)) pgs_nil)))
      (pss_one (ps_dput hu (pv 3) (pv 4) (pv 5) rfl)))
      (pss_one (ps_ret (pv 3))))), ?_⟩
    have L1 : TX K p l [some vp, some vw, some (.ref Ar), none, none, none] G (tOp (rCatA K) (tTup (tCons (tC (.str "nil")) (tCons (tC (.str "result")) tNil))) (tVar 1)) (.tuple (("nil" :: "result" :: ws : List Str).map .str)) := by
      refine tx_catA (as := [.str "nil", .str "result"]) (tx_tup (tx_cons tx_str (tx_cons tx_str tx_nil)) (show 2 ≤ sizeLine by decide)) (td_is rfl dwv) ?_
      rw [List.length_map]
      show 2 + ws.length ≤ _
      omega
    refine L1 G H _ W (Same.refl G) fun v d G1 H1 e1 d1 ff => ?_
    subst ff
    obtain ⟨b, xs, rfl, sq, dxs⟩ := d1.tupI
    have hxs := da_strsL dxs
    subst hxs
    refine ⟨b, rfl, ⟨_, sameT e1.w.same sq⟩, fun D hD => ?_⟩
    have W1 := e1.w.tmp (o := .dK []) hD
    have nDp := e1.w.np hD
    have nDl := e1.w.nl hD
    have gD := e1.w.same.free hD
    refine dc_tup (xs := ("nil" :: "result" :: ws : List Str).map V.str) (fun i Hx => ∃ kvs, (∃ o, Hx = upd H1 D o) ∧ Hx D = some (.dK kvs) ∧ kvs.length ≤ i ∧ ∀ x ∈ ("nil" :: "result" :: ws : List Str).take i, valV kvs (Sum.inr x : Key) = some (.int 0)) ⟨[], ⟨_, rfl⟩, upd_same, Nat.le_refl _, fun x m => absurd m List.not_mem_nil⟩ ?_ ?_ ?_
    · rintro i Hx _ ⟨kvs, ⟨o, rfl⟩, _⟩
      exact sameT (sameAdd hD) (sameT e1.w.same sq)
    · rintro i x Hx hx ⟨kvs, ⟨o, rfl⟩, hk, hl, hv⟩
      rw [List.getElem?_map] at hx
      obtain ⟨y, hy, rfl⟩ := Option.map_eq_some_iff.mp hx
      have lt := (List.getElem?_eq_some_iff.mp hy).1
      simp only [List.length_cons] at lt
      refine ⟨rfl, _, rfl, kvs, Sum.inr y, rfl, hk, by omega, _, ⟨_, updupd⟩, upd_same, by have := length_putK kvs (Sum.inr y : Key) (.int 0); omega, fun x m => ?_⟩
      rw [valV_put]
      by_cases z : x = y
      · rw [if_pos (by rw [z])]
      · rw [if_neg (fun e => z (by injection e))]
        rw [List.take_succ, hy] at m
        rcases List.mem_append.mp m with m | m
        · exact hv x m
        · exact absurd (List.mem_singleton.mp m) z
    · rintro Hx ⟨kvs, ⟨o, rfl⟩, hk, hl, hv⟩
      rw [List.length_map, List.length_cons, List.length_cons] at hl
      rw [List.length_map, List.take_length] at hv
      dsimp only [gName, List.set]
      have WD : Wd p l G1 (upd H1 D o) := by
        have z := W1.w.own (o := o) nDp nDl gD
        rw [updupd] at z
        exact z
      obtain ⟨Ap, xp, rfl, sqp, dp⟩ := dpv.tupI
      have hvs := da_strsL dp
      subst hvs
      have kH : ∀ b u, b ≠ p → b ≠ l → H b = some u → (upd H1 D o) b = some u := fun b u n1 n2 q => by
        have q1 := e1.keep b u n1 n2 q
        rw [upd_ne (ne_of_none q1 hD)]
        exact q1
      have sqx : ∀ Hx : Hp, Wd p l G1 Hx → SqT K Hx Ap (ps.map V.str) := fun Hx w => sameT (e1.sub.trans w.same) sqp
      have hz : (ps.map V.str).length = (vals.map V.int).length := by rw [List.length_map, List.length_map]; exact hlen
      have zl : (ps.zip vals).length = ps.length := by rw [List.length_zip]; omega
      refine Zm.for_zipM (a := Ap) (b := Ar) (xs := ps.map V.str) (ys := vals.map V.int) ⟨_, rfl, _, rfl, rfl, rfl⟩ hz (fun i σ Hx => ∃ o4 o5 kvs, σ = [some (.ref Ap), some vw, some (.ref Ar), some (.ref D), o4, o5] ∧ Wd p l G1 Hx ∧ (∀ b u, b ≠ D → (upd H1 D o) b = some u → Hx b = some u) ∧ Hx D = some (.dK kvs) ∧ kvs.length ≤ 2 + ws.length + i ∧
          ∀ x ∈ ("nil" :: "result" :: (ws ++ ps.take i) : List Str), valV kvs (Sum.inr x : Key) = some (.int (((ps.zip vals).take i).foldl (fun w p => upW w p.1 p.2) (fun _ => 0) x)))
        ⟨_, _, kvs, rfl, WD, fun b u _ q => q, hk, by omega, fun x m => by
          rw [List.take_zero, List.append_nil] at m
          exact hv x m⟩ (fun i σ Hx ⟨_, _, _, _, w, _⟩ => sqx Hx w) ?_ ?_ ?_ (fun h ⟨v1, e1, v2, e2, q⟩ => ⟨v1, e1, v2, e2, h _ _ q⟩)
      · rcases hA with ⟨q, n1, n2⟩ | q
        · refine .inl fun i σ Hx ⟨_, _, _, _, w, k, _⟩ => ?_
          have q1 := kH Ar _ n1 n2 q
          have q2 := e1.keep Ar _ n1 n2 q
          exact SqL.of (k Ar _ (fun e => by rw [e, hD] at q2; cases q2) q1)
        · refine .inr fun i σ Hx ⟨_, _, _, _, w, k, _⟩ => sameT (e1.sub.trans w.same) q
      · rintro i x y Tq σ Hx hx hy ⟨o4, o5, kv, rfl, w, k, hk2, hl2, hv2⟩ hT
        rw [List.getElem?_map] at hx hy
        obtain ⟨x, hx2, rfl⟩ := Option.map_eq_some_iff.mp hx
        obtain ⟨y, hy2, rfl⟩ := Option.map_eq_some_iff.mp hy
        clear hx hy
        have hx := hx2
        have hy := hy2
        have lt : i < ps.length := by
          refine Classical.byContradiction fun h => ?_
          rw [List.getElem?_eq_none (by omega)] at hx
          cases hx
        have nT : D ≠ Tq := fun e => by rw [← e, hk2] at hT; cases hT
        refine ⟨Tq, _, rfl, SqT.of upd_same, rfl, _, _, rfl, _, _, rfl, rfl, ?_⟩
        dsimp only [gName, List.set]
        have hk3 : (upd Hx Tq (.tup [V.str x, V.int y])) D = some (.dK kv) := by rw [upd_ne nT]; exact hk2
        refine ⟨_, rfl, _, rfl, _, rfl, D, _, rfl, DPut.k (k := Sum.inr x) hk3 (by omega), ?_⟩
        have wT := w.tmp (o := .tup [V.str x, V.int y]) hT
        refine ⟨_, _, _, rfl, wT.w.own nDp nDl gD, fun b u nb q => ?_, upd_same, by have := length_putK kv (Sum.inr x : Key) (.int y); omega, fun z m => ?_⟩
        · rw [upd_ne nb]
          have q1 := k b u nb q
          rw [upd_ne (ne_of_none q1 hT)]
          exact q1
        · have ez : (ps.zip vals)[i]? = some (x, y) := List.getElem?_zip_eq_some.mpr ⟨hx, hy⟩
          rw [valV_put, List.take_succ, ez]
          show _ = some (V.int ((((ps.zip vals).take i ++ [(x, y)]).foldl (fun w p => upW w p.1 p.2) (fun _ => (0 : Int))) z))
          rw [List.foldl_append]
          show _ = some (V.int (if z = x then y else _))
          by_cases e : z = x
          · rw [if_pos (by rw [e]), if_pos e]
          · rw [if_neg (fun q => e (by injection q)), if_neg e]
            refine hv2 z ?_
            rw [List.take_succ, hx] at m
            rcases List.mem_cons.mp m with rfl | m
            · exact List.mem_cons_self
            · rcases List.mem_cons.mp m with rfl | m
              · exact List.mem_cons_of_mem _ List.mem_cons_self
              · refine List.mem_cons_of_mem _ (List.mem_cons_of_mem _ ?_)
                rcases List.mem_append.mp m with m | m
                · exact List.mem_append.mpr (.inl m)
                · rcases List.mem_append.mp m with m | m
                  · exact List.mem_append.mpr (.inr m)
                  · exact absurd (List.mem_singleton.mp m) e
      · rintro σ Hx ⟨o4, o5, kv, rfl, w, k, hk2, hl2, hv2⟩
        refine ⟨_, rfl, ?_⟩
        have hD0 := e1.old hD
        refine kk D G1 Hx ⟨w, e1.sub, fun b u n1 n2 q => k b u (ne_of_none q hD0) (kH b u n1 n2 q), e1.new⟩ hD0 gD ⟨kv, hk2, ?_, ?_⟩
        · rw [List.length_map] at hl2
          omega
        · rw [List.length_map, List.take_length, ← zl, List.take_length] at hv2
          exact hv2
end
end L2.Hx

/-! A Frame is made. -/
namespace L2.Hx
open PySem PySem.Spec PyProof.Rows
def spFrameI (K : PySem.W.Frag) (C : Addr) : Sp := fun vs H Q _ => ∃ (p l x dx Ar : Addr) (G : Hp) (fv gv : V) (fn : Fn) (vals : List Int), vs = [.ref x, fv, .ref Ar, gv] ∧ Wd p l G H ∧ H x = some (.ins C dx []) ∧ G x = none ∧ Da K G fv (fnD fn) ∧
  ((H Ar = some (.lst (vals.map V.int)) ∧ Ar ≠ p ∧ Ar ≠ l) ∨ SqT K G Ar (vals.map V.int)) ∧ fn.params.length = vals.length ∧ fn.params.length ≤ 400 ∧ fn.wheres.length ≤ 400 ∧ fn.body.length ≤ 1000 ∧
  ∀ wd td G' H', ExtO [x] p l G H G' H' → H wd = none → H td = none → G' wd = none → G' td = none → G' x = none → H' x = some (.ins C dx (fF fn.name gv wd td)) → WoAt H' wd (nsOf fn) (wf0 fn.params vals) → TodoAt K G' H' td (queF [] 0 fn.body) → Q .non H'
section
variable {P : Program} {w : World} {K : PySem.W.Frag} {mg : Str → Option Value} {base : Heap} {C : Addr}
theorem D_frameI (T : Txt K mg) (S : FrS K mg C) : DfI P w K mg base 2 C ["self", "function", "args", "goal"] (spFrameI K C) := by
  have kFrame := S.k
  have D_Frame_begin := D_begin (P := P) (w := w) (base := base) T S
  have D_first_worths := D_worths (P := P) (w := w) (base := base) T
  obtain ⟨f, fd, Sm⟩ := S.i0
  refine DfI.mk' (k := 1) Sm sc_Frame___init__ (fun vs H Q E h => ?_) (fun cdv A outer s H vs Q E hgd hr h => ?_)
  · obtain ⟨p, l, x, dx, Ar, G, fv, gv, fn, vals, rfl, _⟩ := h
    rfl
  · obtain ⟨p, l, x, dx, Ar, G, fv, gv, fn, vals, rfl, W, hx, gx, dfv, hA, hlen, lp, lw, lb, kk⟩ := h
    have big : (1100000 : Nat) ≤ sizeLine := by decide
    refine ⟨_, (pss_cons (ps_asg (pv 1) (pg_tup rfl (pgs_cons (pg_name (i := 4) sc_Frame___init__.nd rfl (.inl rfl)) (pgs_cons (pg_name (i := 5) sc_Frame___init__.nd rfl (.inl rfl)) (pgs_cons (pg_name (i := 6) sc_Frame___init__.nd rfl (.inl rfl)) (pgs_cons (pg_name (i := 7) sc_Frame___init__.nd rfl (.inl rfl)) (pgs_cons (pg_name (i := 6) sc_Frame___init__.nd rfl (.inl rfl)) (pgs_cons (pg_name (i := 6) sc_Frame___init__.nd rfl (.inl rfl)) (pgs_cons (pg_name (i := 8) sc_Frame___init__.nd rfl (.inl rfl)) pgs_nil)))))))))
      (pss_cons (ps_fld (pv 0) (pv 4) rfl)
      (pss_cons (ps_fld (pv 0) (pv 3) rfl)
      (pss_cons (ps_fld (pv 0) (pe_d D_first_worths hgd hr (pa_cons (pv 5) (pa_cons (pv 7) (pa_cons (pv 2) pa_nil)))) rfl)
      (pss_cons (ps_fld (pv 0) (pe_lst pa_nil) rfl)
      (pss_one (ps_expr (pe_m D_Frame_begin kFrame.cl hgd hr (pv 0) (pa_cons (pv 8) (pa_cons (pe_tup pa_nil) pa_nil)))))))))), ?_⟩
    obtain ⟨Af, xs, rfl, sq, dxs⟩ := dfv.tupI
    cases dxs with | cons e1 t1 => cases t1 with | cons e2 t2 => cases t2 with | cons e3 t3 => cases t3 with | cons e4 t4 => cases t4 with | cons e5 t5 => cases t5 with | cons e6 t6 => cases t6 with | cons e7 t7 =>
    cases t7
    cases e1
    rename_i v2 v3 v4 v5 v6 v7
    have nxp := W.insp hx
    have nxl := W.insl hx
    have mx : x ∈ [x] := List.mem_singleton.mpr rfl
    have sq1 := sameT W.same sq
    refine ⟨_, rfl, Af, _, rfl, sq1, rfl, _, _, rfl, _, _, rfl, _, _, rfl, _, _, rfl, _, _, rfl, _, _, rfl, _, _, rfl, rfl, ?_⟩
    dsimp only [gName, List.set]
    have X1 : ExtO [x] p l G H G (upd H x (.ins C dx [("name", .str fn.name)])) := ExtO.own W mx nxp nxl gx
    refine ⟨_, rfl, _, rfl, x, C, dx, _, rfl, hx, kFrame.cl, kFrame.no.get (by decide), by decide, ?_⟩
    refine ⟨_, rfl, _, rfl, x, C, dx, _, rfl, upd_same, kFrame.cl, kFrame.no.get (by decide), (show (1 : Nat) < 1000 by decide), ?_⟩
    rw [updupd]
    have X2 : ExtO [x] p l G H G (upd H x (.ins C dx [("name", .str fn.name), ("goal", gv)])) := ExtO.own W mx nxp nxl gx
    have hA2 : (((upd H x (.ins C dx [("name", .str fn.name), ("goal", gv)])) Ar = some (.lst (vals.map V.int)) ∧ Ar ≠ p ∧ Ar ≠ l) ∨ SqT K G Ar (vals.map V.int)) := by
      rcases hA with ⟨q, n⟩ | q
      · refine .inl ⟨?_, n⟩
        rw [upd_ne (fun e => by rw [e, hx] at q; cases q)]
        exact q
      · exact .inr q
    refine ⟨_, rfl, _, rfl, _, rfl, p, l, Ar, G, _, _, fn.params, fn.wheres, vals, rfl, X2.w, e2, e4, hA2, hlen, lp, lw, fun D G3 H3 e hD gD wo => ?_⟩
    have hx3 : H3 x = some (.ins C dx [("name", .str fn.name), ("goal", gv)]) := e.keep x _ nxp nxl upd_same
    have gx3 : G3 x = none := e.new x _ upd_same gx
    have hD0 : H D = none := by
      by_cases z : D = x
      · rw [z, upd_same] at hD
        cases hD
      · rw [upd_ne z] at hD
        exact hD
    refine ⟨_, rfl, x, C, dx, _, rfl, hx3, kFrame.cl, kFrame.no.get (by decide), (show (2 : Nat) < 1000 by decide), ?_⟩
    have X3 : ExtO [x] p l G3 H3 G3 (upd H3 x (.ins C dx [("name", .str fn.name), ("goal", gv), ("worths", .ref D)])) := ExtO.own e.w mx nxp nxl gx3
    have nDx : D ≠ x := fun z => by rw [z, upd_same] at hD; cases hD
    have wo3 : WoAt (upd H3 x (.ins C dx [("name", .str fn.name), ("goal", gv), ("worths", .ref D)])) D (nsOf fn) (wf0 fn.params vals) := wo.stay fun o q => by rw [upd_ne nDx]; exact q
    refine ⟨by decide, fun td htd => ?_⟩
    have htd : (upd H3 x (.ins C dx [("name", .str fn.name), ("goal", gv), ("worths", .ref D)])) td = none := htd
    have e4' := X3.w.tmp (o := .lst []) htd
    have ntx : td ≠ x := fun z => by rw [z, upd_same] at htd; cases htd
    have hx4 : (upd (upd H3 x (.ins C dx [("name", .str fn.name), ("goal", gv), ("worths", .ref D)])) td (.lst [])) x = some (.ins C dx [("name", .str fn.name), ("goal", gv), ("worths", .ref D)]) := by rw [upd_ne ntx.symm, upd_same]
    refine ⟨_, rfl, x, C, dx, _, rfl, hx4, kFrame.cl, kFrame.no.get (by decide), (show (3 : Nat) < 1000 by decide), ?_⟩
    have X4 : ExtO [x] p l G3 _ G3 _ := ExtO.own (o := .ins C dx (fF fn.name gv D td)) e4'.w mx nxp nxl gx3
    have XX := (((X2.trans e.o fun c m _ => by rw [List.mem_singleton.mp m]; exact gx3).trans X3 fun c m _ => by rw [List.mem_singleton.mp m]; exact gx3).trans e4'.o fun c m _ => by rw [List.mem_singleton.mp m]; exact gx3).trans X4 fun c m _ => by rw [List.mem_singleton.mp m]; exact gx3
    have nDt : D ≠ td := fun z => by
      obtain ⟨kvs, q, _⟩ := wo3
      rw [← z, q] at htd
      cases htd
    have gtd : G3 td = none := X3.w.same.free htd
    have htd0 : H td = none := by
      cases q : H td with
      | none => rfl
      | some o =>
        have np := X3.w.np htd
        have nl := X3.w.nl htd
        have q1 := X3.keep td o np nl (by simp [ntx]) (e.keep td o np nl (by rw [upd_ne ntx]; exact q))
        rw [htd] at q1
        cases q1
    refine ⟨_, rfl, x, dx, _, rfl, upd_same, rfl, _, rfl, by show 0 ≤ sizeLine; decide, fun wv hwv => ?_⟩
    have hx5 : (upd (upd (upd H3 x (.ins C dx [("name", .str fn.name), ("goal", gv), ("worths", .ref D)])) td (.lst [])) x (.ins C dx (fF fn.name gv D td))) x = some (.ins C dx (fF fn.name gv D td)) := upd_same
    have ht5 : (upd (upd (upd H3 x (.ins C dx [("name", .str fn.name), ("goal", gv), ("worths", .ref D)])) td (.lst [])) x (.ins C dx (fF fn.name gv D td))) td = some (.lst []) := by rw [upd_ne ntx, upd_same]
    have hD5 : ∀ o, (upd H3 x (.ins C dx [("name", .str fn.name), ("goal", gv), ("worths", .ref D)])) D = some o → (upd (upd (upd H3 x (.ins C dx [("name", .str fn.name), ("goal", gv), ("worths", .ref D)])) td (.lst [])) x (.ins C dx (fF fn.name gv D td))) D = some o := fun o q => by rw [upd_ne nDx, upd_ne nDt]; exact q
    have wo5 := wo3.stay hD5
    have hwv : (upd (upd (upd H3 x (.ins C dx [("name", .str fn.name), ("goal", gv), ("worths", .ref D)])) td (.lst [])) x (.ins C dx (fF fn.name gv D td))) wv = none := hwv
    have ntp := X3.w.np htd
    have ntl := X3.w.nl htd
    have n51 : wv ≠ x := fun z => by rw [z, hx5] at hwv; cases hwv
    have n52 : wv ≠ td := fun z => by rw [z, ht5] at hwv; cases hwv
    have n53 : wv ≠ D := fun z => by
      obtain ⟨kvs, q, _⟩ := wo5
      rw [z, q] at hwv
      cases hwv
    have new5 : wv ≠ x ∧ wv ≠ td ∧ wv ≠ D := ⟨n51, n52, n53⟩
    obtain ⟨kvsD, zD, _⟩ := id wo5
    have nDp := XX.w.dkp zD
    have nDl := XX.w.dkl zD
    have e8 := XX.w.put (o := .tup []) hwv
    have dwv : Da K (upd G3 wv (.tup [])) (.ref wv) (wayD []) := .tup (SqT.of upd_same) .nil
    have gxW : (upd G3 wv (.tup [])) x = none := by rw [upd_ne new5.1.symm]; exact gx3
    refine ⟨p, l, x, dx, D, td, _, fn.name, gv, _, _, fn.body, [], [], rfl, e8.w, e8.keep x _ nxp nxl hx5, ⟨[], e8.keep td _ ntp ntl ht5, .nil⟩, ntp, ntl, by rw [upd_ne new5.2.1.symm]; exact gtd, by rw [slD_map]; exact e7.mono (e.sub.trans e8.sub), dwv, lb, Nat.zero_le _, Nat.zero_le _, fun G6 H6 x6 tt g6 => ?_⟩
    have hD6 : ∀ o, (upd (upd (upd H3 x (.ins C dx [("name", .str fn.name), ("goal", gv), ("worths", .ref D)])) td (.lst [])) x (.ins C dx (fF fn.name gv D td))) D = some o → H6 D = some o := fun o q => x6.keep D o nDp nDl (by simp [nDt]) (e8.keep D o nDp nDl q)
    have hx6 : H6 x = some (.ins C dx (fF fn.name gv D td)) := x6.keep x _ nxp nxl (by simp [ntx.symm]) (e8.keep x _ nxp nxl hx5)
    have g6x : G6 x = none := x6.new x _ (e8.keep x _ nxp nxl hx5) gxW
    have g6D : G6 D = none := x6.new D _ (e8.keep D _ nDp nDl zD) (by rw [upd_ne n53.symm]; exact gD)
    have YY : ExtO [x] p l G H (upd G3 wv (.tup [])) _ := XX.trans e8.o fun c m _ => by rw [List.mem_singleton.mp m]; exact gxW
    have Y6 : ExtO [x] p l G H G6 H6 := ⟨x6.w, YY.sub.trans x6.sub, fun b o n1 n2 n3 q => x6.keep b o n1 n2 (fun m => by
      rw [List.mem_singleton.mp m, htd0] at q
      cases q) (YY.keep b o n1 n2 n3 q), fun b o q g => by
      by_cases z1 : b = x
      · rw [z1]; exact g6x
      · by_cases z2 : b = p
        · rw [z2]; exact x6.w.gp
        · by_cases z3 : b = l
          · rw [z3]; exact x6.w.gl
          · exact x6.new b o (YY.keep b o z2 z3 (by simp [z1]) q) (YY.new b o q g)⟩
    exact kk D td G6 H6 Y6 hD0 htd0 g6D g6 g6x hx6 (wo5.stay hD6) (by rw [List.append_nil] at tt; exact tt)
end
end L2.Hx

/-! A Ground is made; its heap now. -/
namespace L2.Hx
open PySem PySem.Spec PyProof.Rows
theorem mergeOn : ∀ (kvs acc : List (Key × V)), ((acc ++ kvs).map (·.1)).Nodup → mergeK acc kvs = acc ++ kvs
  | [], acc, _ => (List.append_nil acc).symm
  | kv :: r, acc, h => by
    have hn : valV acc kv.1 = none := by
      cases q : valV acc kv.1 with
      | none => rfl
      | some v =>
        have m := valV_in q
        rw [List.map_append, List.map_cons] at h
        exact absurd rfl ((List.nodup_append.mp h).2.2 _ m _ List.mem_cons_self)
    show mergeK (putK acc kv.1 kv.2) r = _
    rw [putK_new _ hn, mergeOn r (acc ++ [(kv.1, kv.2)]) (by rw [List.append_assoc]; exact h), List.append_assoc]
    rfl
/-- a heap as it is handed in: a plain tuple of pairs -/
def PlCells (K : PySem.W.Frag) (G : Hp) (v : V) (cells : Cells) : Prop := ∃ a ps, v = .ref a ∧ PlT G a (ps.map V.ref) ∧ Paired (fun p (c : Int × Int) => SqT K G p [.int c.1, .int c.2]) ps cells
def kvC (cells : Cells) : List (Key × V) := cells.map fun c => (Sum.inl c.1, V.int c.2)
theorem kvC_val (a : Int) : ∀ cells : Cells, valV (kvC cells) (Sum.inl a : Key) = (getC cells a).map V.int
  | [] => rfl
  | c :: cells => by
    rw [getC_cons]
    show valV ((Sum.inl c.1, V.int c.2) :: kvC cells) _ = _
    rw [valV_cons, kvC_val a cells]
    by_cases h : a = c.1
    · rw [if_pos (by rw [h]), if_pos h]
      rfl
    · rw [if_neg (fun e => h (by injection e with e; exact e.symm)), if_neg h]
theorem getC_mem : ∀ {cells : Cells} {c : Int × Int}, (cells.map (·.1)).Pairwise (· < ·) → c ∈ cells → getC cells c.1 = some c.2
  | q :: cells, c, h, m => by
    obtain ⟨h1, h2⟩ := List.pairwise_cons.mp (show ((q.1) :: cells.map (·.1)).Pairwise (· < ·) from h)
    rw [getC_cons]
    rcases List.mem_cons.mp m with rfl | m
    · rw [if_pos rfl]
    · have := h1 c.1 (List.mem_map.mpr ⟨c, m, rfl⟩)
      rw [if_neg (by omega)]
      exact getC_mem h2 m
theorem kvC_keys (cells : Cells) : (kvC cells).map (·.1) = (cells.map (·.1)).map Sum.inl := by
  unfold kvC
  rw [List.map_map, List.map_map]
  rfl
theorem kvC_nodup {cells : Cells} (h : (cells.map (·.1)).Pairwise (· < ·)) : ((kvC cells).map (·.1)).Nodup := by
  rw [kvC_keys]
  refine List.Pairwise.map _ (fun a b q e => ?_) h
  injection e with e
  omega
theorem paired_map {α β γ : Type} {P : α → γ → Prop} {Q : α → β → Prop} {f : β → γ} (h : ∀ a b, Q a b → P a (f b)) : ∀ {as : List α} {bs : List β}, Paired Q as bs → Paired P as (bs.map f)
  | _, _, .nil => .nil
  | _, _, .cons q t => .cons (h _ _ q) (paired_map h t)
theorem paired_len {α β : Type} {Q : α → β → Prop} : ∀ {as : List α} {bs : List β}, Paired Q as bs → as.length = bs.length
  | _, _, .nil => rfl
  | _, _, .cons q t => by rw [List.length_cons, List.length_cons, paired_len t]
theorem paired_at {α β : Type} {Q : α → β → Prop} : ∀ {as : List α} {bs : List β} {i : Nat} {a : α}, Paired Q as bs → as[i]? = some a → ∃ b, bs[i]? = some b ∧ Q a b
  | _, _, 0, _, .cons q t, e => by
    rw [List.getElem?_cons_zero] at e
    cases e
    exact ⟨_, rfl, q⟩
  | _, _, i + 1, a, .cons q t, e => by
    rw [List.getElem?_cons_succ] at e ⊢
    exact paired_at t e
def spGroundI (K : PySem.W.Frag) (C : Addr) : Sp := fun vs H Q _ => ∃ (p l g dx ch : Addr) (G : Hp) (hv : V) (cells : Cells) (cs : List Int) (lim : Int), vs = [.ref g, hv, .ref ch, .int lim] ∧ Wd p l G H ∧ H g = some (.ins C dx []) ∧ G g = none ∧ PlCells K G hv cells ∧ SqT K G ch (cs.map V.int) ∧
  (cells.map (·.1)).Pairwise (· < ·) ∧ cells.length ≤ 100000 ∧ cs.length ≤ 100000 ∧ ∀ d L G' H', ExtO [g] p l G H G' H' → H d = none → H L = none → G' d = none → G' L = none → G' g = none → GrAt K C H' g d L ch cells cs 0 lim 0 → Q .non H'
def spNow (K : PySem.W.Frag) (C : Addr) : Sp := fun vs H Q _ => ∃ (p l g d L ch : Addr) (G : Hp) (cells : Cells) (cs : List Int) (n : Nat) (lim st : Int), vs = [.ref g] ∧ Wd p l G H ∧ GrAt K C H g d L ch cells cs n lim st ∧ L ≠ p ∧ L ≠ l ∧ ∀ v G' H', Ext p l G H G' H' → Da K G' v (cellsD cells) → Q v H'
section
variable {P : Program} {w : World} {K : PySem.W.Frag} {mg : Str → Option Value} {base : Heap} {C : Addr}
theorem D_groundI (T : Txt K mg) (S : GrS K mg C) : DfI P w K mg base 1 C ["self", "heap", "choices", "limit"] (spGroundI K C) := by
  have kGround := S.k
  obtain ⟨f, fd, Sm⟩ := S.i0
  refine DfI.mk' (k := 0) Sm sc_Ground___init__ (fun vs H Q E h => ?_) (fun cdv A outer s H vs Q E hgd hr h => ?_)
  · obtain ⟨p, l, g, dx, ch, G, hv, cells, cs, lim, rfl, _⟩ := h
    rfl
  · obtain ⟨p, l, g, dx, ch, G, hv, cells, cs, lim, rfl, W, hg, gg, ⟨a, ps, rfl, plt, pr⟩, hch, asc, few, fewc, kk⟩ := h
    have big : (1100000 : Nat) ≤ sizeLine := by decide
    refine ⟨_, (pss_cons (ps_fld (pv 0) (pe_callTy (call_dictPT rfl) (by rfl) T.b_dict (by decide +kernel) (pa_cons (pv 1) pa_nil)) rfl)
      (pss_cons (ps_fld (pv 0) (pe_lc (X := (cxOf CX0 P w K mg base ["self", "heap", "choices", "limit", "address", "_"] "Ground.__init__" (defScope s_Ground___init__) f cdv A outer s H E).nox) (own := [("address", 4), ("_", 5)]) (g := gTup K 2 (gCons (gName 4) (gCons (gName 5) gNil))) (te := tVar 4) (tt := tYes) rfl sc_Ground___init__.nd (pi_tup (pv 1)) (blkOk_by (own := [("address", 4), ("_", 5)]) (N := ["self", "heap", "choices", "limit", "address", "_"]) (sc := defScope s_Ground___init__) (by decide +kernel)) (fun _ _ _ _ _ => pg_tup rfl (pgs_cons (pg_name (i := 4) sc_Ground___init__.nd rfl (.inl rfl)) (pgs_cons (pg_name (i := 5) sc_Ground___init__.nd rfl (.inl rfl)) pgs_nil))) (fun _ _ _ _ _ => pts_nil) (fun _ _ _ _ _ => (pv 4))) rfl)
      (pss_cons (ps_fld (pv 0) (pv 2) rfl)
      (pss_cons (ps_fld (pv 0) pe_int rfl)
      (pss_cons (ps_fld (pv 0) (pv 3) rfl)
      (pss_one (ps_fld (pv 0) pe_int rfl))))))), ?_⟩
    have ngp := W.insp hg
    have ngl := W.insl hg
    have mg1 : g ∈ [g] := List.mem_singleton.mpr rfl
    refine ⟨_, rfl, a, ps, kvC cells, rfl, plt.same W.same, paired_map (P := fun p (kv : Key × V) => SqT K H p [kV kv.1, kv.2]) (f := fun c : Int × Int => ((Sum.inl c.1 : Key), V.int c.2)) (fun p c q => sameT W.same q) pr, fun d hd => ?_⟩
    rw [mergeOn (kvC cells) [] (kvC_nodup asc), List.nil_append]
    have e1 := W.tmp (o := .dK (kvC cells)) hd
    have ndg : d ≠ g := fun e => by rw [e, hg] at hd; cases hd
    have hg1 : (upd H d (.dK (kvC cells))) g = some (.ins C dx []) := by rw [upd_ne ndg.symm]; exact hg
    refine ⟨_, rfl, g, C, dx, _, rfl, hg1, kGround.cl, kGround.no.get (by decide), by decide, ?_⟩
    have X1 : ExtO [g] p l G (upd H d (.dK (kvC cells))) G (upd (upd H d (.dK (kvC cells))) g (.ins C dx [("cells", .ref d)])) := ExtO.own e1.w mg1 ngp ngl gg
    refine ⟨_, rfl, a, rfl, ⟨_, (plt.same X1.w.same).sqT⟩, fun L hL => ?_⟩
    have hL : (upd (upd H d (.dK (kvC cells))) g (.ins C dx [("cells", .ref d)])) L = none := hL
    have sG : ∀ o, Same G (upd (upd (upd H d (.dK (kvC cells))) g (.ins C dx [("cells", .ref d)])) L o) := fun o => X1.w.same.trans (sameAdd hL)
    have len := paired_len pr
    refine lc_tup (K := K) (a := a) (xs := ps.map V.ref) (fun i Hx => Hx = upd (upd (upd H d (.dK (kvC cells))) g (.ins C dx [("cells", .ref d)])) L (.lst ((cells.map fun c => V.int c.1).take i))) rfl (fun i Hx _ e => ?_) ?_ ?_
    · subst e
      exact (plt.same (sG _)).sqT
    · rintro i x Hx hx rfl
      rw [List.getElem?_map] at hx
      obtain ⟨q, hq, rfl⟩ := Option.map_eq_some_iff.mp hx
      obtain ⟨c, hc, sq⟩ := paired_at pr hq
      have lt := (List.getElem?_eq_some_iff.mp hc).1
      refine ⟨q, _, rfl, sameT (sG _) sq, rfl, _, _, rfl, _, _, rfl, rfl, rfl, _, rfl, _, upd_same, by rw [List.length_take]; omega, ?_⟩
      rw [updupd, List.take_succ, List.getElem?_map, hc]
      rfl
    · rintro Hx rfl
      rw [List.length_map, len, List.take_of_length_le (by rw [List.length_map]; exact Nat.le_refl _)]
      have nLg : L ≠ g := fun e => by rw [e, upd_same] at hL; cases hL
      have e2 := X1.w.tmp (o := .lst (cells.map fun c => V.int c.1)) hL
      have hg2 : (upd (upd (upd H d (.dK (kvC cells))) g (.ins C dx [("cells", .ref d)])) L (.lst (cells.map fun c => V.int c.1))) g = some (.ins C dx [("cells", .ref d)]) := by rw [upd_ne nLg.symm, upd_same]
      refine ⟨_, rfl, g, C, dx, _, rfl, hg2, kGround.cl, kGround.no.get (by decide), (show (1 : Nat) < 1000 by decide), ?_⟩
      refine ⟨_, rfl, _, rfl, g, C, dx, _, rfl, upd_same, kGround.cl, kGround.no.get (by decide), (show (2 : Nat) < 1000 by decide), ?_⟩
      refine ⟨_, rfl, g, C, dx, _, rfl, upd_same, kGround.cl, kGround.no.get (by decide), (show (3 : Nat) < 1000 by decide), ?_⟩
      refine ⟨_, rfl, _, rfl, g, C, dx, _, rfl, upd_same, kGround.cl, kGround.no.get (by decide), (show (4 : Nat) < 1000 by decide), ?_⟩
      refine ⟨_, rfl, g, C, dx, _, rfl, upd_same, kGround.cl, kGround.no.get (by decide), (show (5 : Nat) < 1000 by decide), ?_⟩
      simp only [updupd]
      have X3 : ExtO [g] p l G _ G _ := ExtO.own (o := .ins C dx (gF d L ch 0 lim 0)) e2.w mg1 ngp ngl gg
      have hL0 : H L = none := by
        rw [upd_ne nLg] at hL
        by_cases z : L = d
        · rw [z, upd_same] at hL
          cases hL
        · rw [upd_ne z] at hL
          exact hL
      have ndL : d ≠ L := fun e => by
        rw [upd_ne nLg, ← e, upd_same] at hL
        cases hL
      have gd : G d = none := W.same.free hd
      have gL : G L = none := X1.w.same.free hL
      have XX := ((e1.o (O := [g])).trans X1 fun c _ q => q).trans ((e2.o (O := [g])).trans X3 fun c _ q => q) fun c _ q => q
      refine kk d L G _ XX hd hL0 gd gL gg ⟨⟨dx, upd_same⟩, ⟨kvC cells, ?_, kvC_nodup asc, fun b => kvC_val b cells, by unfold kvC; rw [List.length_map]⟩, ?_, sameT XX.w.same hch, asc, ⟨few, fewc⟩, Nat.zero_le _⟩
      · rw [upd_ne ndg, upd_ne ndL, upd_ne ndg, upd_same]
      · rw [upd_ne nLg, upd_same]
theorem D_now (T : Txt K mg) (S : GrS K mg C) : DfM P w K mg base 1 C "heap_now" ["self"] (spNow K C) := by
  have kGround := S.k
  obtain ⟨f, fd, Sm⟩ := S.m1
  refine DfM.mk' (k := 0) Sm sc_Ground_heap_now (fun vs H Q E h => ?_) (fun cdv A outer s H vs Q E hgd hr h => ?_)
  · obtain ⟨p, l, g, d, L, ch, G, cells, cs, n, lim, st, rfl, _⟩ := h
    rfl
  · obtain ⟨p, l, g, d, L, ch, G, cells, cs, n, lim, st, rfl, W, gr, nLp, nLl, kk⟩ := h
    have hu := hu_of hr
    have big : (1100000 : Nat) ≤ sizeLine := by decide
    refine ⟨_, (pss_one (ps_ret (pe_callTy call_tuple_of (by rfl) T.b_tuple (by decide +kernel) (pa_cons (pe_lc (X := (cxOf CX0 P w K mg base ["self", "address"] "Ground.heap_now" (defScope s_Ground_heap_now) f cdv A outer s H E).nox) (own := [("address", 1)]) (te := tTup (tCons (tVar 1) (tCons (tDGet (tFld K (tVar 0) "cells") (tVar 1)) tNil))) (g := gName 1) (tt := tYes) rfl sc_Ground_heap_now.nd (pi_list (pe_fld (pv 0) rfl)) (blkOk_by (own := [("address", 1)]) (N := ["self", "address"]) (sc := defScope s_Ground_heap_now) (by decide +kernel)) (fun _ _ _ _ _ => pg_name (i := 1) sc_Ground_heap_now.nd rfl (.inl rfl)) (fun _ _ _ _ _ => pts_nil) (fun _ _ _ _ _ => (pe_tup (pa_cons (pv 1) (pa_cons (pe_dget hu (pe_fld (pv 0) rfl) (pv 1) (fun _ _ => rfl)) pa_nil))))) pa_nil)))), ?_⟩
    obtain ⟨dx, h1⟩ := gr.ob
    have hL := gr.hl
    obtain ⟨kvs0, hd0⟩ := gr.dc'
    have ngp := W.insp h1
    have ngl := W.insl h1
    have ndp := W.dkp hd0
    have ndl := W.dkl hd0
    have cell : ∀ (H2 : Hp) (a : Int), H2 d = some (.dK kvs0) → DGet H2 d (.int a) ((getC cells a).map V.int) := fun H2 a q => by
      obtain ⟨kvs, hd, _, hk, _⟩ := gr.dc
      rw [hd0] at hd
      cases hd
      have z := DGet.k (k := (Sum.inl a : Key)) q
      rw [hk a] at z
      exact z
    have few := gr.few.1
    have L1 : ∀ Q : VK, (∀ v G2 H2, Ext p l G H G2 H2 → Da K G2 v (.list (cells.map fun c => .tuple [.int c.1, .int c.2])) → Q v H2) → tLc (iList K (tFld K (tVar 0) "held")) (gName 1) tYes (tTup (tCons (tVar 1) (tCons (tDGet (tFld K (tVar 0) "cells") (tVar 1)) tNil))) [1] [some (.ref g), none] H Q := by
      intro Q kq
      refine ⟨_, rfl, g, C, dx, _, _, rfl, h1, kGround.cl, kGround.no.get (by decide), gF_held, L, rfl, ⟨_, SqL.of hL⟩, fun D hD => ?_⟩
      refine tx_lcW (walk_list (a := L) (xs := cells.map fun c => V.int c.1)) (ds := cells.map fun c => .tuple [.int c.1, .int c.2]) (by rw [List.length_map, List.length_map]) (by rw [List.length_map]; omega) W (fun G3 H3 w3 s3 k3 => SqL.of (k3 L _ nLp nLl hL)) ?_ hD kq
      rintro i dd x G3 H3 H4 R hdd w3 s3 k3 ⟨rfl, hx⟩ kk2
      rw [List.getElem?_map] at hdd hx
      obtain ⟨c, hc, rfl⟩ := Option.map_eq_some_iff.mp hdd
      rw [hc] at hx
      cases hx
      have hv : getC cells c.1 = some c.2 := getC_mem gr.asc (List.mem_of_getElem? hc)
      have z := cell H4 c.1 (k3 d _ ndp ndl hd0)
      rw [hv] at z
      refine ⟨rfl, _, rfl, ⟨_, rfl, g, C, dx, _, _, rfl, k3 g _ ngp ngl h1, kGround.cl, kGround.no.get (by decide), gF_cells, _, rfl, d, _, rfl, z, (show 2 ≤ sizeLine by decide), fun b hb => ?_⟩⟩
      have e3 := w3.put (o := .tup [V.int c.1, V.int c.2]) hb
      exact kk2 _ _ _ e3 (.tup (SqT.of upd_same) (.cons (.int _) (.cons (.int _) .nil)))
    dsimp only [tRet, tCB, tCons]
    refine L1 _ fun v G2 H2 e2 d2 => ?_
    cases d2 with
    | @lst r xs _ hr dxs =>
    refine ⟨r, xs, rfl, .inl ⟨SqL.of (e2.w.same _ _ hr), fun q hq => ?_⟩⟩
    have e4 := e2.w.put (o := .tup xs) hq
    exact kk _ _ _ (e2.trans W e4) (.tup (SqT.of upd_same) (dxs.mono e4.sub))
end
end L2.Hx

/-! What stays so of the plain machine. -/
namespace L2.Hx
open PySem PySem.Spec PyProof.Rows
mutual
def okS (fns : List Fn) (ns : List Str) : Nat → Ss → Prop
  | _, .op o => okO ns o
  | _, .call x f as sp => x ∈ ns ∧ (∀ a ∈ as, a ∈ ns) ∧ ∃ fn, findF fns f = some fn ∧ as.length = fn.params.length
  | n, .ite t a b => 0 < n ∧ okT ns t ∧ okL fns ns (n - 1) a ∧ okL fns ns (n - 1) b ∧ a.length ≤ 45 ∧ b.length ≤ 45
  | n, .whl t k a => 0 < n ∧ okT ns t ∧ okL fns ns (n - 1) a ∧ a.length ≤ 45
def okL (fns : List Fn) (ns : List Str) : Nat → List Ss → Prop
  | _, [] => True
  | n, s :: r => okS fns ns n s ∧ okL fns ns n r
end
theorem okL_iff {fns : List Fn} {ns : List Str} {n : Nat} : ∀ {ss : List Ss}, okL fns ns n ss ↔ ∀ s ∈ ss, okS fns ns n s
  | [] => ⟨fun _ s m => absurd m List.not_mem_nil, fun _ => by rw [okL]; trivial⟩
  | s :: r => by
    rw [okL, okL_iff (ss := r)]
    exact ⟨fun ⟨h, t⟩ x m => by
      rcases List.mem_cons.mp m with rfl | m
      · exact h
      · exact t x m, fun h => ⟨h s List.mem_cons_self, fun x m => h x (List.mem_cons_of_mem _ m)⟩⟩
structure FnOk (fns : List Fn) (f : Fn) : Prop where
  body : okL fns (nsOf f) 100 f.body
  lb : f.body.length ≤ 45
  lp : f.params.length ≤ 400
  lw : f.wheres.length ≤ 400
def FnsOk (fns : List Fn) : Prop := ∀ x f, findF fns x = some f → FnOk fns f
structure FrOk (fns : List Fn) (st : Int) (f : Fr) : Prop where
  res : ("result" : Str) ∈ f.ns
  td : ∀ q ∈ f.todo, ∃ n, okS fns f.ns n q.2 ∧ q.1.length + 2 * n ≤ 800
  len : f.todo.length ≤ 50 * (st.toNat + 1)
def ChainOk : List Fr → Prop
  | f :: c :: r => f.goal ∈ c.ns ∧ ChainOk (c :: r)
  | _ => True
structure MOk (fns : List Fn) (cs : List Int) (lim : Int) (s : MSt) : Prop where
  fr : ∀ f ∈ s.fs, FrOk fns s.st f
  go : ChainOk s.fs
  cl : s.cells.length ≤ 3000 + s.st.toNat
  st0 : 0 ≤ s.st
  st1 : s.st ≤ lim
  st2 : lim ≤ 10000
  lf : s.fs.length ≤ s.st.toNat + 1
theorem FrOk.up {fns : List Fn} {st st2 : Int} {f : Fr} (h : FrOk fns st f) (le : st ≤ st2) : FrOk fns st2 f := ⟨h.res, h.td, by have := h.len; omega⟩
theorem chain_same {f f2 : Fr} {r : List Fr} (hn : f2.ns = f.ns) (hg : f2.goal = f.goal) (h : ChainOk (f :: r)) : ChainOk (f2 :: r) := by
  cases r with
  | nil => trivial
  | cons c r => exact ⟨by rw [hg]; exact h.1, h.2⟩
theorem chain_tail {f : Fr} {r : List Fr} (h : ChainOk (f :: r)) : ChainOk r := by
  cases r with
  | nil => trivial
  | cons c r => exact h.2
theorem queF_mem {way : List Int} {q : List Int × Ss} : ∀ {i : Nat} {ss : List Ss}, q ∈ queF way i ss → q.2 ∈ ss ∧ q.1.length = way.length + 1
  | _, [], m => absurd m List.not_mem_nil
  | i, s :: r, m => by
    rw [queF] at m
    rcases List.mem_cons.mp m with rfl | m
    · exact ⟨List.mem_cons_self, by simp⟩
    · obtain ⟨a, b⟩ := queF_mem m
      exact ⟨List.mem_cons_of_mem _ a, b⟩
theorem fr_inner {fns : List Fn} {ns : List Str} {n : Nat} {way : List Int} {h : Bool} {own : Ss} (hi : ∃ t a b, own = .ite t a b ∨ ∃ k, own = .whl t k a) (ok : okS fns ns n own) (hw : way.length + 2 * n ≤ 800) : (∀ q ∈ inF way h own, ∃ m, okS fns ns m q.2 ∧ q.1.length + 2 * m ≤ 800) ∧ (inF way h own).length ≤ 46 := by
  obtain ⟨t, a, b, rfl | ⟨k, rfl⟩⟩ := hi
  · rw [okS] at ok
    obtain ⟨n0, _, oa, ob, la, lb⟩ := ok
    refine ⟨fun q m => ?_, ?_⟩
    · obtain ⟨m1, m2⟩ := queF_mem (show q ∈ queF _ 0 _ from m)
      refine ⟨n - 1, ?_, by rw [m2, List.length_append]; show way.length + 1 + 1 + _ ≤ _; omega⟩
      cases h with
      | true => exact okL_iff.mp oa _ m1
      | false => exact okL_iff.mp ob _ m1
    · show (queF _ 0 _).length ≤ _
      rw [queF_len]
      cases h with
      | true => exact Nat.le_trans la (by decide)
      | false => exact Nat.le_trans lb (by decide)
  · have ok0 := ok
    rw [okS] at ok
    obtain ⟨n0, _, oa, la⟩ := ok
    cases h with
    | false => exact ⟨fun q m => absurd m List.not_mem_nil, Nat.zero_le _⟩
    | true =>
      refine ⟨fun q m => ?_, ?_⟩
      · rcases List.mem_append.mp (show q ∈ queF _ 0 _ ++ [_] from m) with m | m
        · obtain ⟨m1, m2⟩ := queF_mem m
          exact ⟨n - 1, okL_iff.mp oa _ m1, by rw [m2, List.length_append]; show way.length + 1 + 1 + _ ≤ _; omega⟩
        · rw [List.mem_singleton.mp m]
          exact ⟨n, ok0, hw⟩
      · show (queF _ 0 _ ++ [_]).length ≤ _
        rw [List.length_append, queF_len]
        show a.length + 1 ≤ _
        omega
theorem doOp_len {cs : List Int} {wf wf2 : Str → Int} {cells cells2 : Cells} {n n2 : Nat} {o : Op} (h : doOp cs wf cells n o = some (wf2, cells2, n2)) : cells2.length ≤ cells.length + 1 := by
  cases o with
  | set x a => cases h; omega
  | new x a => cases h; rw [ins_len]; omega
  | get x a =>
    unfold doOp at h
    dsimp only at h
    split at h
    · cases h; omega
    · cases h
  | put a b =>
    unfold doOp at h
    dsimp only at h
    split at h
    · cases h; unfold putC; rw [List.length_map]; omega
    · cases h
  | free a =>
    unfold doOp at h
    dsimp only at h
    split at h
    · cases h; unfold delC; have := List.length_filter_le (fun c : Int × Int => decide (c.1 ≠ wf a)) cells; omega
    · cases h
/-- a step, told by what is on top -/
inductive StepR (fns : List Fn) (cs : List Int) (lim : Int) : MSt → MSt ⊕ Res → Prop
  | done {f : Fr} {cells : Cells} {n : Nat} {st : Int} : f.todo = [] → StepR fns cs lim ⟨[f], cells, n, st⟩ (.inr (.done (f.wf "result") cells st))
  | back {f c : Fr} {fs : List Fr} {cells : Cells} {n : Nat} {st : Int} : f.todo = [] → StepR fns cs lim ⟨f :: c :: fs, cells, n, st⟩ (.inl ⟨{ c with wf := upW c.wf f.goal (f.wf "result") } :: fs, cells, n, st⟩)
  | long {f : Fr} {fs : List Fr} {cells : Cells} {n : Nat} {q : List Int × Ss} {td : List (List Int × Ss)} : f.todo = q :: td → StepR fns cs lim ⟨f :: fs, cells, n, lim⟩ (.inr .long)
  | inner {f : Fr} {fs : List Fr} {cells : Cells} {n : Nat} {st : Int} {way : List Int} {t : Ts} {own : Ss} {td : List (List Int × Ss)} : f.todo = (way, own) :: td → st ≠ lim → (∃ a b, own = .ite t a b ∨ ∃ k, own = .whl t k a) → StepR fns cs lim ⟨f :: fs, cells, n, st⟩ (.inl ⟨{ f with todo := inF way (holdsT f.wf cs n t) own ++ td } :: fs, cells, turnT cs n t, st + 1⟩)
  | call {f : Fr} {fs : List Fr} {cells : Cells} {n : Nat} {st : Int} {way : List Int} {x g : Str} {as : List Str} {sp : PyData} {fn : Fn} {td : List (List Int × Ss)} : f.todo = (way, .call x g as sp) :: td → st ≠ lim → findF fns g = some fn → StepR fns cs lim ⟨f :: fs, cells, n, st⟩ (.inl ⟨newFr fn (as.map f.wf) x :: { f with todo := td } :: fs, cells, n, st + 1⟩)
  | plain {f : Fr} {fs : List Fr} {cells cells2 : Cells} {n n2 : Nat} {st : Int} {way : List Int} {o : Op} {wf2 : Str → Int} {td : List (List Int × Ss)} : f.todo = (way, .op o) :: td → st ≠ lim → doOp cs f.wf cells n o = some (wf2, cells2, n2) → StepR fns cs lim ⟨f :: fs, cells, n, st⟩ (.inl ⟨{ f with wf := wf2, todo := td } :: fs, cells2, n2, st + 1⟩)
  | fault {f : Fr} {fs : List Fr} {cells : Cells} {n : Nat} {st : Int} {way : List Int} {o : Op} {td : List (List Int × Ss)} : f.todo = (way, .op o) :: td → st ≠ lim → doOp cs f.wf cells n o = none → StepR fns cs lim ⟨f :: fs, cells, n, st⟩ (.inr (.fault f.name way cells (st + 1)))
theorem stepR_of {fns : List Fn} {cs : List Int} {lim : Int} {s : MSt} {r : MSt ⊕ Res} (h : StepR fns cs lim s r) : stepM fns cs lim s = r := by
  cases h with
  | done e => unfold stepM; simp only [e]
  | back e => unfold stepM; simp only [e]
  | long e => unfold stepM; simp only [e, if_true]
  | inner e n hi =>
    obtain ⟨a, b, rfl | ⟨k, rfl⟩⟩ := hi
    · unfold stepM; simp only [e, if_neg n]; rfl
    · unfold stepM
      simp only [e, if_neg n]
      congr 3
      unfold inF
      split
      · rw [List.append_assoc]; rfl
      · rfl
  | call e n hf => unfold stepM; simp only [e, if_neg n, hf]
  | plain e n hd => unfold stepM; simp only [e, if_neg n, hd]
  | fault e n hd => unfold stepM; simp only [e, if_neg n, hd]
theorem wf0_len {fn : Fn} {vs : List Int} {x : Str} : (newFr fn vs x).ns = nsOf fn := rfl
theorem step_ok {fns : List Fn} {cs : List Int} {lim : Int} {s s2 : MSt} (F : FnsOk fns) (h : MOk fns cs lim s) (r : StepR fns cs lim s (.inl s2)) : MOk fns cs lim s2 := by
  obtain ⟨h1, h2, h3, h4, h5, h6, h7⟩ := h
  cases r with
  | back e =>
    rename_i f c fs cells n st
    have hc := h1 c (List.mem_cons_of_mem _ List.mem_cons_self)
    refine ⟨fun g m => ?_, chain_same (f := c) rfl rfl h2.2, h3, h4, h5, h6, by simp only [List.length_cons] at h7 ⊢; omega⟩
    rcases List.mem_cons.mp m with rfl | m
    · exact ⟨hc.res, hc.td, hc.len⟩
    · exact h1 g (List.mem_cons_of_mem _ (List.mem_cons_of_mem _ m))
  | inner e n hi =>
    rename_i f fs cells k st way t own td
    have hf := h1 f List.mem_cons_self
    obtain ⟨m, ok, hw⟩ := hf.td (way, own) (by rw [e]; exact List.mem_cons_self)
    obtain ⟨q1, q2⟩ := fr_inner (h := holdsT f.wf cs k t) (let ⟨a, b, z⟩ := hi; ⟨t, a, b, z⟩) ok hw
    have hl := hf.len
    rw [e, List.length_cons] at hl
    have lt : st < lim := by dsimp only at h5; omega
    dsimp only at h3 h4 h7 hl
    refine ⟨fun g m => ?_, chain_same (f := f) rfl rfl h2, by show cells.length ≤ 3000 + (st + 1).toNat; omega, by show 0 ≤ st + 1; omega, by show st + 1 ≤ lim; omega, h6, by show _ ≤ (st + 1).toNat + 1; simp only [List.length_cons] at h7 ⊢; omega⟩
    rcases List.mem_cons.mp m with rfl | m
    · refine ⟨hf.res, fun q mq => ?_, ?_⟩
      · rcases List.mem_append.mp mq with mq | mq
        · exact q1 q mq
        · exact hf.td q (by rw [e]; exact List.mem_cons_of_mem _ mq)
      · show (inF way _ own ++ td).length ≤ 50 * ((st + 1).toNat + 1)
        rw [List.length_append]
        have q3 : (inF way (holdsT f.wf cs k t) own).length ≤ 46 := q2
        omega
    · exact (h1 g (List.mem_cons_of_mem _ m)).up (by show st ≤ st + 1; omega)
  | call e n hf0 =>
    rename_i f fs cells k st way x g as sp fn td
    have hf := h1 f List.mem_cons_self
    obtain ⟨m, ok, hw⟩ := hf.td (way, .call x g as sp) (by rw [e]; exact List.mem_cons_self)
    rw [okS] at ok
    have hl := hf.len
    rw [e, List.length_cons] at hl
    have fo := F g fn hf0
    have lt : st < lim := by dsimp only at h5; omega
    dsimp only at h3 h4 h7 hl
    refine ⟨fun q m => ?_, ⟨ok.1, chain_same (f := f) rfl rfl h2⟩, by show cells.length ≤ 3000 + (st + 1).toNat; omega, by show 0 ≤ st + 1; omega, by show st + 1 ≤ lim; omega, h6, by show _ ≤ (st + 1).toNat + 1; simp only [List.length_cons] at h7 ⊢; omega⟩
    rcases List.mem_cons.mp m with rfl | m
    · refine ⟨List.mem_cons_of_mem _ List.mem_cons_self, fun q mq => ?_, ?_⟩
      · obtain ⟨m1, m2⟩ := queF_mem (show q ∈ queF [] 0 fn.body from mq)
        exact ⟨100, okL_iff.mp fo.body _ m1, by rw [m2]; decide⟩
      · show (queF [] 0 fn.body).length ≤ _
        rw [queF_len]
        have := fo.lb
        omega
    · rcases List.mem_cons.mp m with rfl | m
      · refine ⟨hf.res, fun q mq => hf.td q (by rw [e]; exact List.mem_cons_of_mem _ mq), ?_⟩
        show td.length ≤ 50 * ((st + 1).toNat + 1)
        omega
      · exact (h1 q (List.mem_cons_of_mem _ m)).up (by show st ≤ st + 1; omega)
  | plain e n hd =>
    rename_i f fs cells cells2 k k2 st way o wf2 td
    have hf := h1 f List.mem_cons_self
    have hl := hf.len
    rw [e, List.length_cons] at hl
    have lc := doOp_len hd
    have lt : st < lim := by dsimp only at h5; omega
    dsimp only at h3 h4 h7 hl
    refine ⟨fun q m => ?_, chain_same (f := f) rfl rfl h2, by show cells2.length ≤ 3000 + (st + 1).toNat; omega, by show 0 ≤ st + 1; omega, by show st + 1 ≤ lim; omega, h6, by show _ ≤ (st + 1).toNat + 1; simp only [List.length_cons] at h7 ⊢; omega⟩
    rcases List.mem_cons.mp m with rfl | m
    · refine ⟨hf.res, fun q mq => hf.td q (by rw [e]; exact List.mem_cons_of_mem _ mq), ?_⟩
      show td.length ≤ 50 * ((st + 1).toNat + 1)
      omega
    · exact (h1 q (List.mem_cons_of_mem _ m)).up (by show st ≤ st + 1; omega)
end L2.Hx

/-! The plain machine comes to a result that can be told. -/
namespace L2.Hx
open PySem PySem.Spec PyProof.Rows
theorem step_total {fns : List Fn} {cs : List Int} {lim : Int} {s : MSt} (h : MOk fns cs lim s) (ne : s.fs ≠ []) : ∃ r, StepR fns cs lim s r := by
  obtain ⟨fs, cells, n, st⟩ := s
  cases fs with
  | nil => exact absurd rfl ne
  | cons f fs =>
    cases e : f.todo with
    | nil =>
      cases fs with
      | nil => exact ⟨_, .done e⟩
      | cons c fs => exact ⟨_, .back e⟩
    | cons q td =>
      obtain ⟨way, own⟩ := q
      by_cases z : st = lim
      · subst z
        exact ⟨_, .long e⟩
      · cases own with
        | ite t a b => exact ⟨_, .inner (t := t) e z ⟨a, b, .inl rfl⟩⟩
        | whl t k a => exact ⟨_, .inner (t := t) e z ⟨a, [], .inr ⟨k, rfl⟩⟩⟩
        | call x g as sp =>
          obtain ⟨m, ok, _⟩ := (h.fr f List.mem_cons_self).td (way, .call x g as sp) (by rw [e]; exact List.mem_cons_self)
          rw [okS] at ok
          obtain ⟨_, _, fn, hf, _⟩ := ok
          exact ⟨_, .call e z hf⟩
        | op o =>
          cases d : doOp cs f.wf cells n o with
          | none => exact ⟨_, .fault e z d⟩
          | some r =>
            obtain ⟨w, c, k⟩ := r
            exact ⟨_, .plain e z d⟩
theorem step_ne {fns : List Fn} {cs : List Int} {lim : Int} {s s2 : MSt} (r : StepR fns cs lim s (.inl s2)) : s2.fs ≠ [] := by
  cases r <;> simp
/-- what stays so along steps tells of what a run comes to -/
theorem runM_ind {fns : List Fn} {cs : List Int} {lim : Int} (F : FnsOk fns) (I : MSt → Prop) (R : Res → Prop) (hs : ∀ s s2, MOk fns cs lim s → I s → StepR fns cs lim s (.inl s2) → I s2) (he : ∀ s r, MOk fns cs lim s → I s → StepR fns cs lim s (.inr r) → R r) :
    ∀ (k : Nat) (s : MSt), meas lim s < k → MOk fns cs lim s → s.fs ≠ [] → I s → R (runM fns cs lim s)
  | 0, s, lt, _, _, _ => absurd lt (Nat.not_lt_zero _)
  | k + 1, s, lt, m, ne, i => by
    obtain ⟨r, h⟩ := step_total m ne
    have e := stepR_of h
    cases r with
    | inr r =>
      rw [runM_end e]
      exact he s r m i h
    | inl s2 =>
      rw [runM_go m.st1 e]
      have l2 := (step_less e m.st1).1
      exact runM_ind F I R hs he k s2 (by omega) (step_ok F m h) (step_ne h) (hs s s2 m i h)
def VOk (v : Int) : Prop := 0 ≤ v ∧ v < 2 ^ 1900
def WayOk (w : List Int) : Prop := ∀ z ∈ w, 0 ≤ z ∧ z ≤ 45
structure VInv (c0 : Nat) (s : MSt) : Prop where
  wf : ∀ f ∈ s.fs, ∀ x, VOk (f.wf x)
  way : ∀ f ∈ s.fs, ∀ q ∈ f.todo, WayOk q.1
  nm : ∀ f ∈ s.fs, Okd 0 90 (.str f.name)
  cells : ∀ c ∈ s.cells, VOk c.1 ∧ VOk c.2
  len : s.cells.length ≤ c0 + s.st.toNat
theorem queF_way {way : List Int} (h : WayOk way) : ∀ {i : Nat} {ss : List Ss} {q : List Int × Ss}, q ∈ queF way i ss → i + ss.length ≤ 46 → WayOk q.1
  | _, [], _, m, _ => absurd m List.not_mem_nil
  | i, s :: r, q, m, l => by
    rw [List.length_cons] at l
    rw [queF] at m
    rcases List.mem_cons.mp m with rfl | m
    · intro z mz
      rcases List.mem_append.mp mz with mz | mz
      · exact h z mz
      · rw [List.mem_singleton.mp mz]
        omega
    · exact queF_way h m (by omega)
theorem getC_val {cells : Cells} {a v : Int} (h : getC cells a = some v) : (a, v) ∈ cells := by
  induction cells with
  | nil => cases h
  | cons p t ih =>
    rw [getC_cons] at h
    by_cases z : a = p.1
    · rw [if_pos z] at h
      cases h
      rw [z]
      exact List.mem_cons_self
    · rw [if_neg z] at h
      exact List.mem_cons_of_mem _ (ih h)
theorem doOp_val {cs : List Int} {wf wf2 : Str → Int} {cells cells2 : Cells} {n n2 : Nat} {o : Op} (hw : ∀ x, VOk (wf x)) (hc : ∀ c ∈ cells, VOk c.1 ∧ VOk c.2) (hs : ∀ c ∈ cs, 0 ≤ c ∧ c < 2 ^ 1890) (hl : cells.length ≤ 100000) (h : doOp cs wf cells n o = some (wf2, cells2, n2)) : (∀ x, VOk (wf2 x)) ∧ ∀ c ∈ cells2, VOk c.1 ∧ VOk c.2 := by
  have up : ∀ x v, VOk v → ∀ y, VOk (upW wf x v y) := fun x v hv y => by
    unfold upW
    split
    · exact hv
    · exact hw y
  cases o with
  | set x a => cases h; exact ⟨up x _ (hw a), hc⟩
  | new x a =>
    cases h
    have hn : 0 ≤ nextC cs n ∧ nextC cs n < 2 ^ 1890 := by
      unfold nextC
      rw [List.getD_eq_getElem?_getD]
      cases e : cs[n]? with
      | none => exact ⟨Int.le_refl _, by decide +kernel⟩
      | some c => exact hs c (List.mem_of_getElem? e)
    have hb := below_le (nextC cs n) (cells.map (·.1)) 0
    rw [List.length_map] at hb
    have ha : VOk (atC cells (nextC cs n)) := by
      unfold atC VOk
      have : (2 : Int) ^ 1890 + 200000 < 2 ^ 1900 := by decide +kernel
      omega
    refine ⟨up x _ ha, fun c m => ?_⟩
    unfold insC at m
    rcases List.mem_append.mp m with m | m
    · exact hc c (List.mem_of_mem_take m)
    · rcases List.mem_cons.mp m with rfl | m
      · exact ⟨ha, hw a⟩
      · exact hc c (List.mem_of_mem_drop m)
  | get x a =>
    unfold doOp at h
    dsimp only at h
    split at h
    · rename_i v hv
      cases h
      exact ⟨up x _ (hc _ (getC_val hv)).2, hc⟩
    · cases h
  | put a b =>
    unfold doOp at h
    dsimp only at h
    split at h
    · cases h
      refine ⟨hw, fun c m => ?_⟩
      unfold putC at m
      obtain ⟨c0, m0, rfl⟩ := List.mem_map.mp m
      by_cases z : c0.1 = wf a
      · rw [if_pos z]
        exact ⟨hw a, hw b⟩
      · rw [if_neg z]
        exact hc c0 m0
    · cases h
  | free a =>
    unfold doOp at h
    dsimp only at h
    split at h
    · cases h
      exact ⟨hw, fun c m => hc c (List.mem_filter.mp m).1⟩
    · cases h
theorem wf0_val : ∀ (ps : List Str) (vs : List Int) (w : Str → Int), (∀ x, VOk (w x)) → (∀ v ∈ vs, VOk v) → ∀ x, VOk (((ps.zip vs).foldl (fun w p => upW w p.1 p.2) w) x)
  | [], _, w, h, _, x => h x
  | _ :: _, [], w, h, _, x => h x
  | p :: ps, v :: vs, w, h, hv, x => wf0_val ps vs (upW w p v) (fun y => by
      unfold upW
      split
      · exact hv v List.mem_cons_self
      · exact h y) (fun y m => hv y (List.mem_cons_of_mem _ m)) x
theorem vz : VOk 0 := ⟨Int.le_refl _, by decide +kernel⟩
theorem v_step {fns : List Fn} {cs : List Int} {lim : Int} {s s2 : MSt} {c0 : Nat} (F : FnsOk fns) (hN : ∀ x f, findF fns x = some f → Okd 0 90 (.str f.name)) (hs : ∀ c ∈ cs, 0 ≤ c ∧ c < 2 ^ 1890) (m : MOk fns cs lim s) (i : VInv c0 s) (r : StepR fns cs lim s (.inl s2)) : VInv c0 s2 := by
  obtain ⟨i1, i2, i3, i4, i5⟩ := i
  have q0 := m.st0
  have q1 := m.st1
  have q2 := m.st2
  have q3 := m.cl
  cases r with
  | back e =>
    rename_i f c fs cells n st
    have hc := List.mem_cons_of_mem f (List.mem_cons_self (a := c) (l := fs))
    refine ⟨fun g mg x => ?_, fun g mg => ?_, fun g mg => ?_, i4, i5⟩
    · rcases List.mem_cons.mp mg with rfl | mg
      · show VOk (if x = f.goal then _ else _)
        split
        · exact i1 f List.mem_cons_self _
        · exact i1 c hc x
      · exact i1 g (List.mem_cons_of_mem _ (List.mem_cons_of_mem _ mg)) x
    · rcases List.mem_cons.mp mg with rfl | mg
      · exact i2 c hc
      · exact i2 g (List.mem_cons_of_mem _ (List.mem_cons_of_mem _ mg))
    · rcases List.mem_cons.mp mg with rfl | mg
      · exact i3 c hc
      · exact i3 g (List.mem_cons_of_mem _ (List.mem_cons_of_mem _ mg))
  | inner e n hi =>
    rename_i f fs cells k st way t own td
    have hf := i2 f List.mem_cons_self
    have hw : WayOk way := hf (way, own) (by rw [e]; exact List.mem_cons_self)
    obtain ⟨nn, ok, _⟩ := (m.fr f List.mem_cons_self).td (way, own) (by rw [e]; exact List.mem_cons_self)
    refine ⟨fun g mg => ?_, fun g mg => ?_, fun g mg => ?_, i4, by show cells.length ≤ c0 + (st + 1).toNat; dsimp only at i5; omega⟩
    · rcases List.mem_cons.mp mg with rfl | mg
      · exact i1 f List.mem_cons_self
      · exact i1 g (List.mem_cons_of_mem _ mg)
    · rcases List.mem_cons.mp mg with rfl | mg
      · intro q mq
        rcases List.mem_append.mp mq with mq | mq
        · obtain ⟨a, b, rfl | ⟨kk, rfl⟩⟩ := hi
          · rw [okS] at ok
            obtain ⟨_, _, _, _, la, lb⟩ := ok
            have hw2 : WayOk (way ++ [if holdsT f.wf cs k t then (0 : Int) else 1]) := fun z mz => by
              rcases List.mem_append.mp mz with mz | mz
              · exact hw z mz
              · rw [List.mem_singleton.mp mz]
                split <;> omega
            refine queF_way hw2 (show q ∈ queF _ 0 _ from mq) ?_
            split <;> omega
          · rw [okS] at ok
            obtain ⟨_, _, _, la⟩ := ok
            generalize holdsT f.wf cs k t = hb at mq
            cases hb with
            | false => exact absurd mq List.not_mem_nil
            | true =>
              rcases List.mem_append.mp (show q ∈ queF (way ++ [0]) 0 a ++ [(way, Ss.whl t kk a)] from mq) with mq | mq
              · have hw2 : WayOk (way ++ [(0 : Int)]) := fun z mz => by
                  rcases List.mem_append.mp mz with mz | mz
                  · exact hw z mz
                  · rw [List.mem_singleton.mp mz]
                    omega
                exact queF_way hw2 mq (by omega)
              · rw [List.mem_singleton.mp mq]
                exact hw
        · exact hf q (by rw [e]; exact List.mem_cons_of_mem _ mq)
      · exact i2 g (List.mem_cons_of_mem _ mg)
    · rcases List.mem_cons.mp mg with rfl | mg
      · exact i3 f List.mem_cons_self
      · exact i3 g (List.mem_cons_of_mem _ mg)
  | call e n hf0 =>
    rename_i f fs cells k st way x g as sp fn td
    have fo := F g fn hf0
    refine ⟨fun g' mg => ?_, fun g' mg => ?_, fun g' mg => ?_, i4, by show cells.length ≤ c0 + (st + 1).toNat; dsimp only at i5; omega⟩
    · rcases List.mem_cons.mp mg with rfl | mg
      · exact wf0_val _ _ _ (fun _ => vz) fun v mv => by
          obtain ⟨a, _, rfl⟩ := List.mem_map.mp mv
          exact i1 f List.mem_cons_self a
      · rcases List.mem_cons.mp mg with rfl | mg
        · exact i1 f List.mem_cons_self
        · exact i1 g' (List.mem_cons_of_mem _ mg)
    · rcases List.mem_cons.mp mg with rfl | mg
      · intro q mq
        have := fo.lb
        exact queF_way (way := []) (fun z mz => absurd mz List.not_mem_nil) (show q ∈ queF [] 0 fn.body from mq) (by omega)
      · rcases List.mem_cons.mp mg with rfl | mg
        · exact fun q mq => i2 f List.mem_cons_self q (by rw [e]; exact List.mem_cons_of_mem _ mq)
        · exact i2 g' (List.mem_cons_of_mem _ mg)
    · rcases List.mem_cons.mp mg with rfl | mg
      · exact hN g fn hf0
      · rcases List.mem_cons.mp mg with rfl | mg
        · exact i3 f List.mem_cons_self
        · exact i3 g' (List.mem_cons_of_mem _ mg)
  | plain e n hd =>
    rename_i f fs cells cells2 k k2 st way o wf2 td
    dsimp only at q0 q1 q2 q3 i5
    obtain ⟨v1, v2⟩ := doOp_val (i1 f List.mem_cons_self) i4 hs (by show cells.length ≤ 100000; omega) hd
    have lc := doOp_len hd
    refine ⟨fun g mg => ?_, fun g mg => ?_, fun g mg => ?_, v2, by show cells2.length ≤ c0 + (st + 1).toNat; omega⟩
    · rcases List.mem_cons.mp mg with rfl | mg
      · exact v1
      · exact i1 g (List.mem_cons_of_mem _ mg)
    · rcases List.mem_cons.mp mg with rfl | mg
      · exact fun q mq => i2 f List.mem_cons_self q (by rw [e]; exact List.mem_cons_of_mem _ mq)
      · exact i2 g (List.mem_cons_of_mem _ mg)
    · rcases List.mem_cons.mp mg with rfl | mg
      · exact i3 f List.mem_cons_self
      · exact i3 g (List.mem_cons_of_mem _ mg)
theorem okd_int {v : Int} (h : VOk v) : Okd 0 1921 (.int v) := by
  refine ⟨decide_eq_true ?_, Nat.zero_le _, Nat.le_refl _⟩
  have h2 : v.natAbs < 2 ^ 1900 := by
    have := h.1
    have := h.2
    have e : ((2 ^ 1900 : Nat) : Int) = 2 ^ 1900 := by norm_cast
    omega
  by_cases z : v.natAbs = 0
  · rw [z]
    decide
  · exact Nat.lt_trans ((Nat.log2_lt z).mpr h2) (by decide)
theorem okd_strs {x : Str} (h : okB (.str x) = true := by decide +kernel) (h2 : siz (.str x) ≤ 1921 := by decide +kernel) : Okd 0 1921 (.str x) := ⟨h, Nat.zero_le _, h2⟩
theorem okd_cells {cells : Cells} {n N : Nat} (h : ∀ c ∈ cells, VOk c.1 ∧ VOk c.2) (hl : cells.length ≤ n) (hN : 3851 * n + 3 ≤ N) : Okd 2 N (cellsD cells) := by
  unfold cellsD
  refine Okd.tup (k := 1) (n := 3849) (m := n) (fun d m => ?_) (by rw [List.length_map]; exact hl) hN
  obtain ⟨c, mc, rfl⟩ := List.mem_map.mp m
  obtain ⟨h1, h2⟩ := h c mc
  refine Okd.tup (k := 0) (n := 1921) (m := 2) (fun d m => ?_) (Nat.le_refl _) (by decide)
  rcases List.mem_cons.mp m with rfl | m
  · exact okd_int h1
  · rw [List.mem_singleton.mp m]
    exact okd_int h2
theorem okd_way {w : List Int} (h : WayOk w) (hl : w.length ≤ 800) : Okd 1 1540000 (wayD w) := by
  unfold wayD
  refine Okd.tup (k := 0) (n := 1921) (m := 800) (fun d m => ?_) (by rw [List.length_map]; exact hl) (by decide)
  obtain ⟨z, mz, rfl⟩ := List.mem_map.mp m
  have := h z mz
  exact okd_int ⟨this.1, Int.lt_of_le_of_lt this.2 (by decide +kernel)⟩
/-- the sizes of several items, one beside another -/
theorem okd_tupL : ∀ {k : Nat} {ds : List PyData} {ns : List Nat}, Paired (fun d n => Okd k n d) ds ns → ∀ N, (ns.map (· + 2)).sum + 3 ≤ N → Okd (k + 1) N (.tuple ds) := by
  intro k ds ns h N hN
  have key : okAll ds = true ∧ PyData.depthAll ds ≤ k ∧ sizAll ds ≤ (ns.map (· + 2)).sum := by
    clear hN
    induction h with
    | nil => exact ⟨rfl, by simp [PyData.depthAll], by simp [sizAll]⟩
    | cons q _ ih =>
      refine ⟨by rw [okAll, q.ok, ih.1]; rfl, ?_, ?_⟩
      · rw [PyData.depthAll]
        have := q.dp
        omega
      · rw [sizAll, List.map_cons, List.sum_cons]
        have := q.sz
        omega
  refine ⟨key.1, ?_, ?_⟩
  · simp only [PyData.depth]
    omega
  · rw [siz]
    omega
/-- what a run comes to can be told -/
theorem run_okd {fns : List Fn} {cs : List Int} {lim : Int} {fn : Fn} {vals : List Int} {cells : Cells} {nm : Str} (F : FnsOk fns) (hf : findF fns nm = some fn) (hN : ∀ x f, findF fns x = some f → Okd 0 90 (.str f.name)) (hs : ∀ c ∈ cs, 0 ≤ c ∧ c < 2 ^ 1890) (hv : ∀ v ∈ vals, VOk v) (hc : ∀ c ∈ cells, VOk c.1 ∧ VOk c.2) (hl : cells.length + lim.toNat ≤ 3000) (h0 : 0 ≤ lim) (s0 : MSt) (e0 : s0 = ⟨[newFr fn vals "nil"], cells, 0, 0⟩) (m0 : MOk fns cs lim s0) : Okd 3 16000000 (resD (runM fns cs lim s0)) := by
  have fo := F nm fn hf
  have i0 : VInv cells.length s0 := by
    subst e0
    refine ⟨fun f m x => ?_, fun f m q mq => ?_, fun f m => ?_, hc, Nat.le_add_right _ _⟩
    · rw [List.mem_singleton.mp m]
      exact wf0_val _ _ _ (fun _ => vz) hv x
    · rw [List.mem_singleton.mp m] at mq
      have := fo.lb
      exact queF_way (way := []) (fun z mz => absurd mz List.not_mem_nil) (show q ∈ queF [] 0 fn.body from mq) (by omega)
    · rw [List.mem_singleton.mp m]
      exact hN nm fn hf
  have sv : ∀ st : Int, 0 ≤ st → st ≤ 10001 → VOk st := fun st a b => ⟨a, Int.lt_of_le_of_lt b (by decide +kernel)⟩
  refine runM_ind F (VInv cells.length) (fun r => Okd 3 16000000 (resD r)) (fun s s2 m i r => v_step F hN hs m i r) (fun s r m i h => ?_) _ s0 (Nat.lt_succ_self _) m0 (by rw [e0]; simp) i0
  have q0 := m.st0
  have q1 := m.st1
  have q2 := m.st2
  have ql := i.len
  cases h with
  | done e =>
    rename_i f cells2 n st
    dsimp only at q0 q1 q2 ql
    exact okd_tupL (ns := [1921, 1921, 3851 * 3000 + 3, 1921]) (.cons ((okd_strs).mono (by decide) (Nat.le_refl _)) (.cons ((okd_int (i.wf f List.mem_cons_self _)).mono (by decide) (Nat.le_refl _)) (.cons (okd_cells i.cells (n := 3000) (by show cells2.length ≤ 3000; omega) (Nat.le_refl _)) (.cons ((okd_int (sv st q0 (by omega))).mono (by decide) (Nat.le_refl _)) .nil)))) _ (by decide)
  | long e => exact okd_tupL (ns := [1921]) (.cons ((okd_strs).mono (by decide) (Nat.le_refl _)) .nil) _ (by decide)
  | fault e n hd =>
    rename_i f fs cells2 k st way o td
    dsimp only at q0 q1 q2 ql
    have hw := i.way f List.mem_cons_self (way, .op o) (by rw [e]; exact List.mem_cons_self)
    obtain ⟨nn, _, lw⟩ := (m.fr f List.mem_cons_self).td (way, .op o) (by rw [e]; exact List.mem_cons_self)
    dsimp only at lw
    exact okd_tupL (ns := [1921, 90, 1540000, 3851 * 3000 + 3, 1921]) (.cons ((okd_strs).mono (by decide) (Nat.le_refl _)) (.cons ((i.nm f List.mem_cons_self).mono (by decide) (Nat.le_refl _)) (.cons ((okd_way (w := way) hw (by omega)).mono (by decide) (Nat.le_refl _)) (.cons (okd_cells i.cells (n := 3000) (by show cells2.length ≤ 3000; omega) (Nat.le_refl _)) (.cons ((okd_int (sv (st + 1) (by omega) (by omega))).mono (by decide) (Nat.le_refl _)) .nil))))) _ (by decide)
end L2.Hx

/-! The program's machine. -/
namespace L2.Hx
open PySem PySem.Spec PyProof.Rows
abbrev OF := Addr × Addr × Addr
def ownF (os : List OF) : List Addr := os.flatMap fun o => [o.1, o.2.1, o.2.2]
structure FrAt (K : PySem.W.Frag) (C : Addr) (G H : Hp) (o : OF) (f : Fr) (gv : V) : Prop where
  ob : ∃ dx, H o.1 = some (.ins C dx (fF f.name gv o.2.1 o.2.2))
  wo : WoAt H o.2.1 f.ns f.wf
  td : TodoAt K G H o.2.2 f.todo
inductive FrsAt (K : PySem.W.Frag) (C : Addr) (G H : Hp) : List OF → List Fr → Prop
  | nil : FrsAt K C G H [] []
  | cons {o : OF} {f : Fr} {gv : V} {os : List OF} {fs : List Fr} : FrAt K C G H o f gv → (fs ≠ [] → gv = .str f.goal) → FrsAt K C G H os fs → FrsAt K C G H (o :: os) (f :: fs)
section
variable {K : PySem.W.Frag} {C CG : Addr} {p l g d L ch : Addr} {T : List Addr} {G0 H0 G H G' H' : Hp} {os : List OF} {fs : List Fr} {o : OF} {f : Fr} {gv : V} {cells : Cells} {cs : List Int} {n : Nat} {lim st : Int}
theorem TodoAt.keep {td : Addr} {q : List (List Int × Ss)} (h : TodoAt K G H td q) (s : Same G G') (k : ∀ o, H td = some o → H' td = some o) : TodoAt K G' H' td q := let ⟨ts, a, b⟩ := h; ⟨ts, k _ a, b.mono s⟩
theorem FrAt.keep (h : FrAt K C G H o f gv) (s : Same G G') (k : ∀ b u, b = o.1 ∨ b = o.2.1 ∨ b = o.2.2 → H b = some u → H' b = some u) : FrAt K C G' H' o f gv :=
  ⟨let ⟨dx, a⟩ := h.ob; ⟨dx, k _ _ (.inl rfl) a⟩, h.wo.stay fun u q => k _ _ (.inr (.inl rfl)) q, h.td.keep s fun u q => k _ _ (.inr (.inr rfl)) q⟩
theorem FrsAt.keep (s : Same G G') : ∀ {os : List OF} {fs : List Fr}, FrsAt K C G H os fs → (∀ b ∈ ownF os, ∀ u, H b = some u → H' b = some u) → FrsAt K C G' H' os fs
  | _, _, .nil, _ => .nil
  | _, _, .cons a b t, k => .cons (a.keep s fun b u e q => k b (List.mem_append.mpr (.inl (by rcases e with rfl | rfl | rfl <;> simp))) u q) b (FrsAt.keep s t fun b m => k b (List.mem_append.mpr (.inr m)))
theorem GrAt.keep (gr : GrAt K CG H g d L ch cells cs n lim st) (k : ∀ b u, b = g ∨ b = d ∨ b = L → H b = some u → H' b = some u) (c : SqT K H' ch (cs.map V.int)) : GrAt K CG H' g d L ch cells cs n lim st := by
  obtain ⟨⟨dx, h1⟩, ⟨kvs, h2, h3⟩, h4, h5, h6, h7, h8⟩ := gr
  exact ⟨⟨dx, k _ _ (.inl rfl) h1⟩, ⟨kvs, k _ _ (.inr (.inl rfl)) h2, h3⟩, k _ _ (.inr (.inr rfl)) h4, c, h6, h7, h8⟩
theorem ext_off (W : Wd p l G H) (hT : ∀ b ∈ T, b ≠ p ∧ b ≠ l ∧ G b = none) (k : ∀ b u, b ∉ T → H b = some u → H' b = some u) : ExtO T p l G H G H' := by
  have np : p ∉ T := fun m => (hT p m).1 rfl
  have nl : l ∉ T := fun m => (hT l m).2.1 rfl
  refine ⟨⟨fun b u q => k b u (fun m => ?_) (W.same b u q), W.gp, W.gl, ?_, ?_⟩, Same.refl G, fun b u _ _ n q => k b u n q, fun b u _ g => g⟩
  · rw [(hT b m).2.2] at q
    cases q
  · obtain ⟨m, t, m0, m1, e⟩ := W.dk
    exact ⟨m, t, m0, m1, k _ _ np e⟩
  · obtain ⟨ns, z, e⟩ := W.ls
    exact ⟨ns, z, k _ _ nl e⟩
theorem ext_step (E : Ext p l G0 H0 G H) (e : ExtO T p l G H G' H') (hT : ∀ b ∈ T, H0 b = none) : Ext p l G0 H0 G' H' :=
  ⟨e.w, E.sub.trans e.sub, fun b u n1 n2 q => e.keep b u n1 n2 (fun m => by rw [hT b m] at q; cases q) (E.keep b u n1 n2 q), fun b u q z => by
    by_cases n1 : b = p
    · subst n1; exact e.w.gp
    · by_cases n2 : b = l
      · subst n2; exact e.w.gl
      · exact e.new b u (E.keep b u n1 n2 q) (E.new b u q z)⟩
structure MAt (K : PySem.W.Frag) (CF CG p l : Addr) (G0 H0 G H : Hp) (g d L ch : Addr) (os : List OF) (s : MSt) (cs : List Int) (lim : Int) : Prop where
  E : Ext p l G0 H0 G H
  ch_ : SqT K G ch (cs.map V.int)
  gr : GrAt K CG H g d L ch s.cells cs s.n lim s.st
  fr : FrsAt K CF G H os s.fs
  nd : (g :: d :: L :: ownF os).Nodup
  off : ∀ b ∈ g :: d :: L :: ownF os, b ≠ p ∧ b ≠ l ∧ G b = none ∧ H0 b = none
/-- something of one's own is changed; what it is now is told for the Ground and the frames -/
theorem MAt.go {os2 : List OF} {s s2 : MSt} (m : MAt K C CG p l G0 H0 G H g d L ch os s cs lim) (e : ExtO T p l G H G' H') (hT : ∀ b ∈ T, H0 b = none) (hO : ∀ b ∈ T, G' b = none) (gr : GrAt K CG H' g d L ch s2.cells cs s2.n lim s2.st) (fr : FrsAt K C G' H' os2 s2.fs)
    (nd : (g :: d :: L :: ownF os2).Nodup) (sub : ∀ b ∈ ownF os2, b ∈ ownF os ∨ (b ≠ p ∧ b ≠ l ∧ G' b = none ∧ H0 b = none)) (old : ∀ b ∈ g :: d :: L :: ownF os, ∃ u, H b = some u) : MAt K C CG p l G0 H0 G' H' g d L ch os2 s2 cs lim := by
  have offG : ∀ b ∈ g :: d :: L :: ownF os, b ≠ p ∧ b ≠ l ∧ G' b = none ∧ H0 b = none := fun b mb => by
    obtain ⟨n1, n2, n3, n4⟩ := m.off b mb
    refine ⟨n1, n2, ?_, n4⟩
    by_cases z : b ∈ T
    · exact hO b z
    · obtain ⟨u, q⟩ := old b mb
      exact e.new b u q n3
  refine ⟨ext_step m.E e hT, sameT e.sub m.ch_, gr, fr, nd, fun b mb => ?_⟩
  rcases List.mem_cons.mp mb with rfl | mb
  · exact offG _ List.mem_cons_self
  · rcases List.mem_cons.mp mb with rfl | mb
    · exact offG _ (List.mem_cons_of_mem _ List.mem_cons_self)
    · rcases List.mem_cons.mp mb with rfl | mb
      · exact offG _ (List.mem_cons_of_mem _ (List.mem_cons_of_mem _ List.mem_cons_self))
      · rcases sub b mb with z | z
        · exact offG _ (List.mem_cons_of_mem _ (List.mem_cons_of_mem _ (List.mem_cons_of_mem _ z)))
        · exact z
theorem DaAll.snoc_inv : ∀ {vs : List V} {ds : List PyData} {d : PyData}, DaAll K G vs (ds ++ [d]) → ∃ us v, vs = us ++ [v] ∧ DaAll K G us ds ∧ Da K G v d
  | _, [], d, .cons h t => by
    cases t
    exact ⟨[], _, rfl, .nil, h⟩
  | _, e :: ds, d, .cons h t => by
    obtain ⟨us, v, rfl, a, b⟩ := DaAll.snoc_inv (ds := ds) t
    exact ⟨_ :: us, v, rfl, .cons h a, b⟩
theorem paired_frs : ∀ {os : List OF} {fs : List Fr}, FrsAt K C G H os fs → os.length = fs.length
  | _, _, .nil => rfl
  | _, _, .cons _ _ t => by rw [List.length_cons, List.length_cons, paired_frs t]
theorem own_sub {b : Addr} (m : b ∈ ownF os) : b ∈ g :: d :: L :: ownF (o :: os) := List.mem_cons_of_mem _ (List.mem_cons_of_mem _ (List.mem_cons_of_mem _ (List.mem_append.mpr (.inr m))))
theorem nd_tail (h : (g :: d :: L :: ownF (o :: os)).Nodup) : (g :: d :: L :: ownF os).Nodup := by
  refine h.sublist (.cons₂ g (.cons₂ d (.cons₂ L ?_)))
  exact List.sublist_append_right [o.1, o.2.1, o.2.2] (ownF os)
theorem FrsAt.old : ∀ {os : List OF} {fs : List Fr}, FrsAt K C G H os fs → ∀ b ∈ ownF os, ∃ u, H b = some u
  | _, _, .nil, b, m => absurd m List.not_mem_nil
  | _, _, .cons (o := o) a _ t, b, m => by
    rcases List.mem_append.mp (show b ∈ [o.1, o.2.1, o.2.2] ++ ownF _ from m) with m | m
    · obtain ⟨dx, q1⟩ := a.ob
      obtain ⟨kvs, q2, _⟩ := a.wo
      obtain ⟨ts, q3, _⟩ := a.td
      rcases List.mem_cons.mp m with rfl | m
      · exact ⟨_, q1⟩
      · rcases List.mem_cons.mp m with rfl | m
        · exact ⟨_, q2⟩
        · rw [List.mem_singleton.mp m]
          exact ⟨_, q3⟩
    · exact FrsAt.old t b m
theorem MAt.old {s : MSt} (m : MAt K C CG p l G0 H0 G H g d L ch os s cs lim) : ∀ b ∈ g :: d :: L :: ownF os, ∃ u, H b = some u := fun b mb => by
  rcases List.mem_cons.mp mb with rfl | mb
  · obtain ⟨dx, q⟩ := m.gr.ob
    exact ⟨_, q⟩
  · rcases List.mem_cons.mp mb with rfl | mb
    · obtain ⟨kvs, q⟩ := m.gr.dc'
      exact ⟨_, q⟩
    · rcases List.mem_cons.mp mb with rfl | mb
      · exact ⟨_, m.gr.hl⟩
      · exact m.fr.old b mb
end
def opW : Op → Str
  | .set _ _ => "set"
  | .new _ _ => "new"
  | .get _ _ => "get"
  | .put _ _ => "put"
  | .free _ => "free"
def opR : Op → List PyData
  | .set x a => [.str x, .str a]
  | .new x a => [.str x, .str a]
  | .get x a => [.str x, .str a]
  | .put x a => [.str x, .str a]
  | .free a => [.str a]
theorem opD_eq (o : Op) : opD o = .tuple (.str (opW o) :: opR o) := by cases o <;> rfl
theorem opW_in (o : Op) : inV (.str (opW o)) [.str "if", .str "while"] = false := by cases o <;> rfl
theorem opW_call (o : Op) : opW o ≠ "call" := by cases o <;> (dsimp only [opW]; decide)
/-- an if or a while -/
theorem in_word {own : Ss} {t : Ts} (h : ∃ a b, own = .ite t a b ∨ ∃ k, own = .whl t k a) : ∃ W rest, ssD own = .tuple (.str W :: tsD t :: rest) ∧ inV (.str W) [.str "if", .str "while"] = true := by
  obtain ⟨a, b, rfl | ⟨k, rfl⟩⟩ := h
  · exact ⟨"if", _, by rw [ssD], rfl⟩
  · exact ⟨"while", _, by rw [ssD], rfl⟩
theorem in_few {fns : List Fn} {ns : List Str} {n : Nat} {own : Ss} {t : Ts} (h : ∃ a b, own = .ite t a b ∨ ∃ k, own = .whl t k a) (ok : okS fns ns n own) : few1000 own ∧ okT ns t := by
  obtain ⟨a, b, rfl | ⟨k, rfl⟩⟩ := h
  · rw [okS] at ok
    obtain ⟨_, o, _, _, la, lb⟩ := ok
    exact ⟨⟨by omega, by omega⟩, o⟩
  · rw [okS] at ok
    obtain ⟨_, o, _, la⟩ := ok
    exact ⟨by show a.length ≤ 1000; omega, o⟩
end L2.Hx

/-! The program's machine: outcome. -/
namespace L2.Hx
open PySem PySem.Spec PyProof.Rows
def FnsAt (K : PySem.W.Frag) (G : Hp) (kvs : List (Key × V)) (fns : List Fn) : Prop := ∀ x fn, findF fns x = some fn → ∃ v, valV kvs (Sum.inr x : Key) = some v ∧ Da K G v (fnD fn)
def spOut (K : PySem.W.Frag) (CF CG : Addr) : Sp := fun vs H Q _ => ∃ (p l fd a g wd td d L ch : Addr) (G0 H0 G : Hp) (kvs : List (Key × V)) (fns : List Fn) (cs : List Int) (lim : Int) (f : Fr) (cells : Cells) (n : Nat) (st : Int), vs = [.ref fd, .ref a, .ref g] ∧
  MAt K CF CG p l G0 H0 G H g d L ch [(a, wd, td)] ⟨[f], cells, n, st⟩ cs lim ∧ Wd p l G0 H0 ∧ G fd = some (.dK kvs) ∧ FnsAt K G kvs fns ∧ FnsOk fns ∧ MOk fns cs lim ⟨[f], cells, n, st⟩ ∧ (∀ c ∈ cs, 0 ≤ c) ∧
  ∀ v G' H', Ext p l G0 H0 G' H' → Da K G' v (resD (runM fns cs lim ⟨[f], cells, n, st⟩)) → Q v H'
section
variable {P : Program} {w : World} {K : PySem.W.Frag} {mg : Str → Option Value} {base : Heap} {C CG : Addr}
theorem D_out (T : Txt K mg) (S : FrS K mg C) (SG : GrS K mg CG) : Df P w K mg base 4 "outcome" ["functions", "first", "ground"] (spOut K C CG) := by
  have kFrame := S.k
  have kGround := SG.k
  have D_Frame___init__ := D_frameI (P := P) (w := w) (base := base) T S
  have D_Frame_begin_inner := D_inner (P := P) (w := w) (base := base) T S
  have D_Ground_heap_now := D_now (P := P) (w := w) (base := base) T SG
  have D_Ground_count_step := D_step (P := P) (w := w) (base := base) SG.k SG.m2
  have D_do_plain := D_plain (P := P) (w := w) (base := base) T SG
  have D_test_holds := D_test (P := P) (w := w) (base := base) T SG.k SG.m3
  obtain ⟨f, fdd, Sd⟩ := T.d_outcome
  refine Df.mk' (k := 3) Sd sc_outcome (fun vs H Q E h => ?_) (fun cdv A outer s H vs Q E hgd hr h => ?_)
  · obtain ⟨p, l, fd, a, g, wd, td, d, L, ch, G0, H0, G, kvs, fns, cs, lim, f, cells, n, st, rfl, _⟩ := h
    rfl
  · obtain ⟨p, l, fd, a, g, wd, td, d, L, ch, G0, H0, G, kvs, fns, cs, lim, f0, cells, n, st, rfl, M0, W0, hfd, hfn, fok, mok, cpos, kk⟩ := h
    have hu := hu_of hr
    have big : (1100000 : Nat) ≤ sizeLine := by decide
    refine ⟨_, (pss_cons (ps_set (i := 3) sc_outcome.nd rfl (.inl rfl) (pe_lst (pa_cons (pv 1) pa_nil)))
      (pss_one (ps_while PassesOwn.never (pt_val pe_bl) (pss_cons (ps_set (i := 4) sc_outcome.nd rfl (.inr rfl) (pe_ix ix_list (pv 3) (pe_un un_neg pe_int) (fun _ _ => rfl)))
      (pss_cons (ps_if (pt_not (pt_truth (pe_fld (pv 4) rfl) (fun _ => rfl))) (pss_cons (ps_expr (pe_bm0 PySem.F.plainAttrs_list PySem.F.slot_list_pop PySem.F.type_list_pop mt_pop (pv 3)))
      (pss_cons (ps_if (pt_not (pt_truth (pv 3) (fun _ => rfl))) (pss_one (ps_ret (pe_tup (pa_cons pe_str (pa_cons (pe_dget hu (pe_fld (pv 4) rfl) pe_str (fun _ _ => rfl)) (pa_cons (pe_m0 D_Ground_heap_now kGround.cl hgd hr (pv 2)) (pa_cons (pe_fld (pv 2) rfl) pa_nil))))))) pss_nil)
      (pss_cons (ps_set (i := 5) sc_outcome.nd rfl (.inl rfl) (pe_ix ix_list (pv 3) (pe_un un_neg pe_int) (fun _ _ => rfl)))
      (pss_cons (ps_dput hu (pe_fld (pv 5) rfl) (pe_fld (pv 4) rfl) (pe_dget hu (pe_fld (pv 4) rfl) pe_str (fun _ _ => rfl)) rfl)
      (pss_one ps_continue))))) pss_nil)
      (pss_cons (ps_asg (pe_bm0 PySem.F.plainAttrs_list PySem.F.slot_list_pop PySem.F.type_list_pop mt_pop (pe_fld (pv 4) rfl)) (pg_tup rfl (pgs_cons (pg_name (i := 6) sc_outcome.nd rfl (.inl rfl)) (pgs_cons (pg_name (i := 7) sc_outcome.nd rfl (.inl rfl)) pgs_nil))))
      (pss_cons (ps_if (pt_not (pt_val (pe_m0 D_Ground_count_step kGround.cl hgd hr (pv 2)))) (pss_one (ps_ret (pe_tup (pa_cons pe_str pa_nil)))) pss_nil)
      (pss_one (ps_if (pt_cmpR op_in_seq (pe_ix ix_tup (pv 7) pe_int (fun _ _ => rfl)) (pe_tup (pa_cons pe_str (pa_cons pe_str pa_nil))) (by rfl)) (pss_one (ps_expr (pe_m D_Frame_begin_inner kFrame.cl hgd hr (pv 4) (pa_cons (pv 6) (pa_cons (pv 7) (pa_cons (pe_d D_test_holds hgd hr (pa_cons (pe_ix ix_tup (pv 7) pe_int (fun _ _ => rfl)) (pa_cons (pe_fld (pv 4) rfl) (pa_cons (pv 2) pa_nil)))) pa_nil)))))) (pss_one (ps_if (pt_cmpR op_eq (pe_ix ix_tup (pv 7) pe_int (fun _ _ => rfl)) pe_str (nomark _)) (pss_cons (ps_asg (pv 7) (pg_tup rfl (pgs_cons (pg_name (i := 8) sc_outcome.nd rfl (.inl rfl)) (pgs_cons (pg_name (i := 9) sc_outcome.nd rfl (.inl rfl)) (pgs_cons (pg_name (i := 10) sc_outcome.nd rfl (.inl rfl)) (pgs_cons (pg_name (i := 11) sc_outcome.nd rfl (.inl rfl)) (pgs_cons (pg_name (i := 8) sc_outcome.nd rfl (.inl rfl)) pgs_nil)))))))
      (pss_one (ps_expr (pe_bm PySem.F.plainAttrs_list PySem.F.slot_list_append PySem.F.type_list_append mt_append (pv 3) (pa_cons (pe_mk D_Frame___init__ hgd hr kFrame.at_ (pa_cons (pe_dget hu (pv 0) (pv 10) (fun _ _ => rfl)) (pa_cons (pe_lc (X := (cxOf CX0 P w K mg base ["functions", "first", "ground", "frames", "frame", "caller", "way", "statement", "_", "goal", "callee", "args", "term"] "outcome" (defScope s_outcome) f cdv A outer s H E).nox) (own := [("term", 12)]) (te := tDGet (tFld K (tVar 4) "worths") (tVar 12)) (g := gName 12) (tt := tYes) rfl sc_outcome.nd (pi_tup (pv 11)) (blkOk_by (own := [("term", 12)]) (N := ["functions", "first", "ground", "frames", "frame", "caller", "way", "statement", "_", "goal", "callee", "args", "term"]) (sc := defScope s_outcome) (by decide +kernel)) (fun _ _ _ _ _ => pg_name (i := 12) sc_outcome.nd rfl (.inl rfl)) (fun _ _ _ _ _ => pts_nil) (fun _ _ _ _ _ => (pe_dget hu (pe_fld (pv 4) rfl) (pv 12) (fun _ _ => rfl)))) (pa_cons (pv 9) pa_nil)))) pa_nil))))) (pss_one (ps_if (pt_not (pt_val (pe_d D_do_plain hgd hr (pa_cons (pv 7) (pa_cons (pe_fld (pv 4) rfl) (pa_cons (pv 2) pa_nil)))))) (pss_one (ps_ret (pe_tup (pa_cons pe_str (pa_cons (pe_fld (pv 4) rfl) (pa_cons (pv 6) (pa_cons (pe_m0 D_Ground_heap_now kGround.cl hgd hr (pv 2)) (pa_cons (pe_fld (pv 2) rfl) pa_nil)))))))) pss_nil))))))))))))), ?_⟩
    generalize hr0 : runM fns cs lim ⟨[f0], cells, n, st⟩ = r0 at kk
    refine ⟨_, rfl, (show 1 ≤ sizeLine by decide), fun R hR => ?_⟩
    dsimp only [gName, List.set]
    have e1 := M0.E.w.tmp (o := .lst [.ref a]) hR
    have M1 : MAt K C CG p l G0 H0 G (upd H R (.lst [.ref a])) g d L ch [(a, wd, td)] ⟨[f0], cells, n, st⟩ cs lim := by
      refine M0.go (T := []) e1.o (fun b m => absurd m List.not_mem_nil) (fun b m => absurd m List.not_mem_nil) (M0.gr.keep (fun b u _ q => sameAdd hR _ _ q) (sameT (M0.E.w.same.trans (sameAdd hR)) M0.ch_)) (M0.fr.keep (Same.refl G) fun b _ u q => sameAdd hR _ _ q) M0.nd (fun b m => .inl m) M0.old
    have nR : ∀ b ∈ g :: d :: L :: ownF [(a, wd, td)], R ≠ b := fun b m e => by
      obtain ⟨u, q⟩ := M0.old b m
      rw [← e, hR] at q
      cases q
    have hR0 : H0 R = none := M0.E.old hR
    have gR : G R = none := M0.E.w.same.free hR
    have nRp := M0.E.w.np hR
    have nRl := M0.E.w.nl hR
    refine ⟨fun m σ Hx => ∃ (o4 o5 o6 o7 o8 o9 o10 o11 o12 : Option V) (os : List OF) (s : MSt) (Gx : Hp), σ = [some (.ref fd), some (.ref a), some (.ref g), some (.ref R), o4, o5, o6, o7, o8, o9, o10, o11, o12] ∧ m = meas lim s ∧ MAt K C CG p l G0 H0 Gx Hx g d L ch os s cs lim ∧ MOk fns cs lim s ∧ runM fns cs lim s = r0 ∧
        Hx R = some (.lst (os.reverse.map fun o => V.ref o.1)) ∧ (∀ b ∈ g :: d :: L :: ownF os, R ≠ b) ∧ Gx R = none ∧ Same G Gx ∧ s.fs ≠ [],
      ⟨_, _, _, _, _, _, _, _, _, _, [(a, wd, td)], _, G, rfl, rfl, M1, mok, hr0, upd_same, nR, gR, Same.refl G, by simp⟩, ?_⟩
    rintro m σ Hx ⟨o4, o5, o6, o7, o8, o9, o10, o11, o12, os, ⟨fs, cells, n, st⟩, Gx, rfl, rfl, M, mk, hrun, hRx, nRx, gRx, sG, nemp⟩
    refine ⟨_, rfl, ?_⟩
    refine if_yes rfl ?_
    have hstep : ∀ s2, StepR fns cs lim ⟨fs, cells, n, st⟩ (.inl s2) → meas lim s2 < meas lim ⟨fs, cells, n, st⟩ ∧ runM fns cs lim s2 = r0 ∧ MOk fns cs lim s2 := fun s2 z => by
      have e := stepR_of z
      exact ⟨(step_less e mk.st1).1, by rw [← hrun, runM_go mk.st1 e], step_ok fok mk z⟩
    have hend : ∀ r, StepR fns cs lim ⟨fs, cells, n, st⟩ (.inr r) → r0 = r := fun r z => by
      rw [← hrun, runM_end (stepR_of z)]
    refine ⟨fun σ' H' => ∃ (o4 o5 o6 o7 o8 o9 o10 o11 o12 : Option V) (os : List OF) (s : MSt) (Gx : Hp), σ' = [some (.ref fd), some (.ref a), some (.ref g), some (.ref R), o4, o5, o6, o7, o8, o9, o10, o11, o12] ∧ meas lim s < meas lim ⟨fs, cells, n, st⟩ ∧ MAt K C CG p l G0 H0 Gx H' g d L ch os s cs lim ∧ MOk fns cs lim s ∧ runM fns cs lim s = r0 ∧
        H' R = some (.lst (os.reverse.map fun o => V.ref o.1)) ∧ (∀ b ∈ g :: d :: L :: ownF os, R ≠ b) ∧ Gx R = none ∧ Same G Gx ∧ s.fs ≠ [], fun σ' H' ⟨o4, o5, o6, o7, o8, o9, o10, o11, o12, os, s, Gx, e1, e2, e3⟩ => ⟨_, e2, o4, o5, o6, o7, o8, o9, o10, o11, o12, os, s, Gx, e1, rfl, e3⟩, ?_⟩
    have gr := M.gr
    have fr := M.fr
    dsimp only at gr fr nemp
    cases fr with
    | nil => exact absurd rfl nemp
    | @cons o f gv os fs fa hgv ft =>
    obtain ⟨af, wf, tf⟩ := o
    obtain ⟨⟨dxf, hf⟩, wo, ⟨ts, htd, dts⟩⟩ := fa
    dsimp only at hf wo htd
    refine ⟨_, rfl, _, rfl, R, _, _, _, rfl, rfl, SqL.of hRx, by rw [List.reverse_cons, List.map_append]; exact atI_last _ _, ?_⟩
    dsimp only [gName, List.set]
    have hxs : (((af, wf, tf) :: os).reverse.map fun o : OF => V.ref o.1) = (os.reverse.map fun o => V.ref o.1) ++ [V.ref af] := by
      rw [List.reverse_cons, List.map_append]
      rfl
    rw [hxs] at hRx
    have W := M.E.w
    have afp := W.insp hf
    have afl := W.insl hf
    cases htodo : f.todo with
    | nil =>
      have e0 : ts = [] := by
        rw [htodo] at dts
        cases dts
        rfl
      subst e0
      refine ⟨_, rfl, af, C, dxf, _, _, rfl, hf, kFrame.cl, kFrame.no.get (by decide), fF_todo, _, .inl ⟨_, SqL.of htd, rfl⟩, ?_⟩
      refine if_yes rfl ?_
      refine ⟨_, rfl, .inl ⟨rfl, _, SqL.of hRx⟩, R, _, .ref af, rfl, rfl, hRx, by simp, ?_⟩
      rw [List.dropLast_concat]
      have eR : ExtO [R] p l Gx Hx Gx (upd Hx R (.lst (os.reverse.map fun o => V.ref o.1))) := ExtO.own W (List.mem_singleton.mpr rfl) nRp nRl gRx
      have kR : ∀ b u, b ≠ R → Hx b = some u → (upd Hx R (.lst (os.reverse.map fun o => V.ref o.1))) b = some u := fun b u n q => by rw [upd_ne n]; exact q
      generalize hH2 : upd Hx R (.lst (os.reverse.map fun o => V.ref o.1)) = H2 at eR kR ⊢
      have hR2 : H2 R = some (.lst (os.reverse.map fun o => V.ref o.1)) := by rw [← hH2]; exact upd_same
      have E2 : Ext p l G0 H0 Gx H2 := ext_step M.E eR fun b m => by rw [List.mem_singleton.mp m]; exact hR0
      have nRg : ∀ b ∈ g :: d :: L :: ownF ((af, wf, tf) :: os), b ≠ R := fun b m e => nRx b m e.symm
      have ng : g ≠ R := nRg g List.mem_cons_self
      have nd : d ≠ R := nRg d (List.mem_cons_of_mem _ List.mem_cons_self)
      have nL : L ≠ R := nRg L (List.mem_cons_of_mem _ (List.mem_cons_of_mem _ List.mem_cons_self))
      have naf : af ≠ R := nRg af (by simp [ownF])
      have nwf : wf ≠ R := nRg wf (by simp [ownF])
      have gr2 : GrAt K CG H2 g d L ch cells cs n lim st := gr.keep (fun b u e q => kR b u (by rcases e with rfl | rfl | rfl <;> assumption) q) (sameT E2.w.same M.ch_)
      have hf2 := kR _ _ naf hf
      have wo2 : WoAt H2 wf f.ns f.wf := wo.stay fun u q => kR _ _ nwf q
      have hres := (mk.fr f List.mem_cons_self).res
      have offL := M.off L (by simp)
      cases ft with
      | nil =>
        have er := hend _ (StepR.done htodo)
        refine ⟨_, rfl, _, .inl ⟨_, SqL.of hR2, rfl⟩, ?_⟩
        refine if_yes rfl ?_
        refine ⟨_, rfl, af, C, dxf, _, _, rfl, hf2, kFrame.cl, kFrame.no.get (by decide), fF_worths, wf, _, rfl, wo2.get hres, ?_⟩
        obtain ⟨dxg, hg2⟩ := gr2.ob
        refine ⟨_, rfl, g, dxg, _, rfl, hg2, rfl, p, l, g, d, L, ch, Gx, cells, cs, n, lim, st, rfl, E2.w, gr2, offL.1, offL.2.1, fun v G3 H3 e3 d3 => ?_⟩
        have hg3 := e3.keep g _ (E2.w.insp hg2) (E2.w.insl hg2) hg2
        refine ⟨_, rfl, g, CG, dxg, _, _, rfl, hg3, kGround.cl, kGround.no.get (by decide), gF_steps, (show 4 ≤ sizeLine by decide), fun c hc => ?_⟩
        have e4 := e3.w.put (o := .tup [V.str "done", V.int (f.wf "result"), v, V.int st]) hc
        refine kk _ _ _ ((E2.trans W0 e3).trans W0 e4) ?_
        rw [er]
        exact .tup (SqT.of upd_same) (.cons (.str _) (.cons (.int _) (.cons (d3.mono e4.sub) (.cons (.int _) .nil))))
      | @cons o2 c gv2 os2 fs2 fa2 hgv2 ft2 =>
        obtain ⟨ac, wc, tc⟩ := o2
        obtain ⟨⟨dxc, hc⟩, woc, tdc⟩ := fa2
        dsimp only at hc woc tdc
        have hxs2 : (((ac, wc, tc) :: os2).reverse.map fun o : OF => V.ref o.1) = (os2.reverse.map fun o => V.ref o.1) ++ [V.ref ac] := by
          rw [List.reverse_cons, List.map_append]
          rfl
        rw [hxs2] at hR2
        obtain rfl : gv = .str f.goal := hgv (by simp)
        have nac : ac ≠ R := nRg ac (by simp [ownF])
        have nwc : wc ≠ R := nRg wc (by simp [ownF])
        have ntc : tc ≠ R := nRg tc (by simp [ownF])
        have hc2 := kR _ _ nac hc
        have woc2 : WoAt H2 wc c.ns c.wf := woc.stay fun u q => kR _ _ nwc q
        have hgoal : f.goal ∈ c.ns := mk.go.1
        obtain ⟨lt, er, mk2⟩ := hstep _ (StepR.back htodo)
        refine ⟨_, rfl, _, .inl ⟨_, SqL.of hR2, rfl⟩, ?_⟩
        refine ifN (by simp) ?_
        refine ⟨_, rfl, _, rfl, R, _, _, _, rfl, rfl, SqL.of hR2, atI_last _ _, ?_⟩
        dsimp only [gName, List.set]
        obtain ⟨H4, dp, wo4, ⟨u4, e4⟩, k4⟩ := woc2.put hgoal (f.wf "result")
        refine ⟨_, rfl, af, C, dxf, _, _, rfl, hf2, kFrame.cl, kFrame.no.get (by decide), fF_worths, wf, _, rfl, wo2.get hres, ?_⟩
        refine ⟨_, rfl, ac, C, dxc, _, _, rfl, hc2, kFrame.cl, kFrame.no.get (by decide), fF_worths, ?_⟩
        refine ⟨_, rfl, af, C, dxf, _, _, rfl, hf2, kFrame.cl, kFrame.no.get (by decide), fF_goal, wc, H4, rfl, dp, ?_⟩
        have offw := M.off wc (by simp [ownF])
        subst e4
        have eW : ExtO [R, wc] p l Gx H2 Gx (upd H2 wc u4) := ExtO.own E2.w (by simp) offw.1 offw.2.1 offw.2.2.1
        have eA : ExtO [R, wc] p l Gx Hx Gx (upd H2 wc u4) := (eR.more (by simp)).trans eW fun _ _ q => q
        have ndt := nd_tail M.nd
        have nd2 : (g :: d :: L :: ac :: wc :: tc :: ownF os2).Nodup := ndt
        have nwc' : ∀ b ∈ g :: d :: L :: ac :: tc :: ownF os2, b ≠ wc := fun b m e => by
          subst e
          simp only [List.nodup_cons, List.mem_cons, not_or] at nd2 m
          grind
        have kA : ∀ b u, b ≠ R → b ≠ wc → Hx b = some u → (upd H2 wc u4) b = some u := fun b u n1 n2 q => by rw [upd_ne n2]; exact kR b u n1 q
        refine ⟨_, _, _, _, _, _, _, _, _, (ac, wc, tc) :: os2, _, Gx, rfl, lt, M.go eA ?_ ?_ ?_ ?_ ndt (fun b m => .inl (List.mem_append.mpr (.inr m))) M.old, mk2, er, ?_, fun b m => ?_, gRx, sG, by simp⟩
        · intro b m
          rcases List.mem_cons.mp m with rfl | m
          · exact hR0
          · rw [List.mem_singleton.mp m]
            exact offw.2.2.2
        · intro b m
          rcases List.mem_cons.mp m with rfl | m
          · exact gRx
          · rw [List.mem_singleton.mp m]
            exact offw.2.2.1
        · exact gr2.keep (fun b u e q => by rw [upd_ne (nwc' b (by rcases e with rfl | rfl | rfl <;> simp))]; exact q) (sameT eA.w.same M.ch_)
        · refine .cons ⟨⟨dxc, by rw [upd_ne (nwc' ac (by simp))]; exact hc2⟩, wo4, tdc.keep (Same.refl Gx) fun u q => by rw [upd_ne (nwc' tc (by simp))]; exact kR _ _ ntc q⟩ hgv2 (ft2.keep (Same.refl Gx) fun b m u q => kA b u (nRg b (by simp [ownF] at m ⊢; grind)) (nwc' b (by simp [m])) q)
        · rw [upd_ne nwc.symm, hxs2]
          exact hR2
        · exact nRx b (by
            rcases List.mem_cons.mp m with rfl | m
            · exact List.mem_cons_self
            · rcases List.mem_cons.mp m with rfl | m
              · exact List.mem_cons_of_mem _ List.mem_cons_self
              · rcases List.mem_cons.mp m with rfl | m
                · exact List.mem_cons_of_mem _ (List.mem_cons_of_mem _ List.mem_cons_self)
                · exact own_sub m)
    | cons q td =>
      obtain ⟨way, own⟩ := q
      obtain ⟨ts, x, rfl, dts2, dx⟩ : ∃ us v, ts = us ++ [v] ∧ DaAll K Gx us (td.reverse.map itD) ∧ Da K Gx v (itD (way, own)) := by
        rw [htodo, List.reverse_cons, List.map_append] at dts
        exact DaAll.snoc_inv dts
      refine ⟨_, rfl, af, C, dxf, _, _, rfl, hf, kFrame.cl, kFrame.no.get (by decide), fF_todo, _, .inl ⟨_, SqL.of htd, rfl⟩, ?_⟩
      refine ifN (by simp) ?_
      obtain ⟨Ax, xs, rfl, sqx, dxs⟩ := dx.tupI
      cases dxs with | cons dway t1 => cases t1 with | cons down t2 =>
      cases t2
      rename_i wv sv
      have offt := M.off tf (by simp [ownF])
      have eR : ExtO [tf] p l Gx Hx Gx (upd Hx tf (.lst ts)) := ExtO.own W (List.mem_singleton.mpr rfl) offt.1 offt.2.1 offt.2.2.1
      have kR : ∀ b u, b ≠ tf → Hx b = some u → (upd Hx tf (.lst ts)) b = some u := fun b u n q => by rw [upd_ne n]; exact q
      refine ⟨_, rfl, af, C, dxf, _, _, rfl, hf, kFrame.cl, kFrame.no.get (by decide), fF_todo, .inl ⟨rfl, _, SqL.of htd⟩, tf, _, .ref Ax, rfl, rfl, htd, by simp, ?_⟩
      rw [List.dropLast_concat]
      have htf2 : (upd Hx tf (.lst ts)) tf = some (.lst ts) := upd_same
      generalize upd Hx tf (.lst ts) = H2 at eR kR htf2 ⊢
      have E2 : Ext p l G0 H0 Gx H2 := ext_step M.E eR fun b m => by rw [List.mem_singleton.mp m]; exact offt.2.2.2
      refine ⟨Ax, _, rfl, sameT E2.w.same sqx, rfl, _, _, rfl, _, _, rfl, rfl, ?_⟩
      dsimp only [gName, List.set]
      have ntf : ∀ b ∈ g :: d :: L :: af :: wf :: ownF os, b ≠ tf := fun b m e => by
        subst e
        have nd2 : (g :: d :: L :: af :: wf :: b :: ownF os).Nodup := M.nd
        simp only [List.nodup_cons, List.mem_cons, not_or] at nd2 m
        grind
      have nRt : R ≠ tf := nRx tf (by simp [ownF])
      have hf2 := kR af _ (ntf af (by simp)) hf
      have wo2 : WoAt H2 wf f.ns f.wf := wo.stay fun u q => kR _ _ (ntf wf (by simp)) q
      have gr2 : GrAt K CG H2 g d L ch cells cs n lim st := gr.keep (fun b u e q => kR b u (ntf b (by rcases e with rfl | rfl | rfl <;> simp)) q) (sameT E2.w.same M.ch_)
      have hR2 := kR R _ nRt hRx
      obtain ⟨dxg, hg2⟩ := gr2.ob
      have hfr := mk.fr f List.mem_cons_self
      obtain ⟨nd_, okown, hway⟩ := hfr.td (way, own) (by rw [htodo]; exact List.mem_cons_self)
      dsimp only at okown hway
      refine ⟨_, rfl, g, dxg, _, rfl, hg2, rfl, g, d, L, ch, cells, cs, n, lim, st, rfl, gr2, fun elim => ?_, fun nlim H3 gr3 ap3 => ?_⟩
      · subst elim
        have er := hend _ (StepR.long htodo)
        refine ⟨_, rfl, ?_⟩
        refine if_yes rfl ?_
        refine ⟨(show 1 ≤ sizeLine by decide), fun c hc => ?_⟩
        have e4 := E2.w.put (o := .tup [V.str "long"]) hc
        refine kk _ _ _ (E2.trans W0 e4) ?_
        rw [er]
        exact .tup (SqT.of upd_same) (.cons (.str _) .nil)
      refine ⟨_, rfl, ?_⟩
      refine ifN rfl ?_
      have E3 : ExtO [g, d, L] p l Gx H2 Gx H3 := ext_off E2.w (fun b m => by
        obtain ⟨n1, n2, n3, _⟩ := M.off b (by
          rcases List.mem_cons.mp m with rfl | m
          · exact List.mem_cons_self
          · rcases List.mem_cons.mp m with rfl | m
            · exact List.mem_cons_of_mem _ List.mem_cons_self
            · rw [List.mem_singleton.mp m]
              exact List.mem_cons_of_mem _ (List.mem_cons_of_mem _ List.mem_cons_self))
        exact ⟨n1, n2, n3⟩) fun b u n q => ap3 b u (fun e => n (by rw [e]; simp)) (fun e => n (by rw [e]; simp)) (fun e => n (by rw [e]; simp)) q
      have EA : ExtO [tf, g, d, L] p l Gx Hx Gx H3 := (eR.more (by simp)).trans (E3.more (by simp)) fun _ _ q => q
      have ngdl : ∀ b ∈ af :: wf :: tf :: ownF os, b ≠ g ∧ b ≠ d ∧ b ≠ L := fun b m => by
        have nd2 : (g :: d :: L :: af :: wf :: tf :: ownF os).Nodup := M.nd
        simp only [List.nodup_cons, List.mem_cons, not_or] at nd2 m
        grind
      have kR3 : ∀ b u, b ≠ g → b ≠ d → b ≠ L → H2 b = some u → H3 b = some u := fun b u n1 n2 n3 q => ap3 b u n1 n2 n3 q
      have k3 : ∀ b ∈ af :: wf :: tf :: ownF os, ∀ u, H2 b = some u → H3 b = some u := fun b m u q => ap3 b u (ngdl b m).1 (ngdl b m).2.1 (ngdl b m).2.2 q
      have hf3 := k3 af (by simp) _ hf2
      have wo3 : WoAt H3 wf f.ns f.wf := wo2.stay fun u q => k3 wf (by simp) u q
      have htf3 := k3 tf (by simp) _ htf2
      have nRo : ∀ b ∈ g :: d :: L :: af :: wf :: tf :: ownF os, R ≠ b := nRx
      have hR3 : H3 R = some (.lst ((os.reverse.map fun o => V.ref o.1) ++ [V.ref af])) := ap3 R _ (nRo g (by simp)) (nRo d (by simp)) (nRo L (by simp)) hR2
      have ft3 : FrsAt K C Gx H3 os fs := ft.keep (Same.refl Gx) fun b m u q => k3 b (by simp [m]) u (kR b u (ntf b (by simp [m])) q)
      have SG3 : Same Gx H3 := EA.w.same
      by_cases hin0 : ∃ t a b, own = .ite t a b ∨ ∃ k, own = .whl t k a
      · obtain ⟨t, hin⟩ := hin0
        obtain ⟨Wd_, rest_, eD, eW⟩ := in_word hin
        obtain ⟨fw, okt⟩ := in_few hin okown
        have down2 := down
        rw [eD] at down2
        obtain ⟨As, xs, rfl, sqs, dxs⟩ := down2.tupI
        cases dxs with | cons dw t3 => cases t3 with | cons dt t4 =>
        cases dw
        rename_i tv rest
        refine ⟨_, rfl, As, _, _, _, rfl, rfl, sameT SG3 sqs, atI_zero _ _, (show 2 ≤ sizeLine by decide), fun c hc => ?_⟩
        have E4 := EA.w.tmp (o := .tup [V.str "if", V.str "while"]) hc
        refine ⟨c, _, rfl, .inr (SqT.of upd_same), rfl, rfl, _, rfl, ?_⟩
        have s4 : Same H3 (upd H3 c (.tup [V.str "if", V.str "while"])) := sameAdd hc
        generalize upd H3 c (.tup [V.str "if", V.str "while"]) = H4 at E4 s4 ⊢
        refine if_yes eW ?_
        have hf4 := s4 _ _ hf3
        refine ⟨_, rfl, af, dxf, _, rfl, hf4, rfl, _, rfl, _, rfl, ⟨_, rfl, As, _, _, _, rfl, rfl, sameT (SG3.trans s4) sqs, atI_nat (j := 1) rfl, _, rfl, af, C, dxf, _, _, rfl, hf4, kFrame.cl, kFrame.no.get (by decide), fF_worths, _, rfl, ?_⟩⟩
        have gr4 := gr3.same s4
        have wo4 := wo3.same s4
        obtain ⟨lt, er, mk2⟩ := hstep _ (StepR.inner htodo nlim hin)
        refine ⟨tv, wf, Gx, f.ns, f.wf, t, g, d, L, ch, cells, cs, n, lim, st + 1, rfl, SG3.trans s4, dt, okt, wo4, gr4, fun H5 gr5 ap5 => ?_⟩
        have E5 : ExtO [g, d, L] p l Gx H4 Gx H5 := ext_off E4.w (fun b m => by
          obtain ⟨n1, n2, n3, _⟩ := M.off b (by simp [ownF] at m ⊢; grind)
          exact ⟨n1, n2, n3⟩) fun b u n q => ap5 b u (fun e => n (by rw [e]; simp)) (fun e => n (by rw [e]; simp)) (fun e => n (by rw [e]; simp)) q
        have EB : ExtO [tf, g, d, L] p l Gx Hx Gx H5 := (EA.trans ((ext_off (T := []) EA.w (fun b m => absurd m List.not_mem_nil) fun b u _ q => s4 b u q : ExtO [] p l Gx H3 Gx H4).more (by simp)) fun _ _ q => q).trans (E5.more (by simp)) fun _ _ q => q
        have k5 : ∀ b ∈ af :: wf :: tf :: ownF os, ∀ u, H3 b = some u → H5 b = some u := fun b m u q => ap5 b u (ngdl b m).1 (ngdl b m).2.1 (ngdl b m).2.2 (s4 b u q)
        have hf5 := k5 af (by simp) _ hf3
        have htf5 := k5 tf (by simp) _ htf3
        have lq := hfr.len
        rw [htodo, List.length_cons] at lq
        have q2 := mk.st1
        have q3 := mk.st2
        dsimp only at q2 q3 lq
        refine ⟨p, l, af, dxf, wf, tf, Gx, f.name, gv, _, wv, own, holdsT f.wf cs n t, way, td, rfl, EB.w, hf5, ⟨ts, htf5, dts2⟩, offt.1, offt.2.1, offt.2.2.1, down, dway, fw, by omega, by omega, fun G6 H6 e6 td6 g6 => ?_⟩
        have EC : ExtO [tf, g, d, L] p l Gx Hx G6 H6 := EB.trans (e6.more (by simp)) fun b m q => by
          by_cases z : b = tf
          · rw [z]; exact g6
          · obtain ⟨u, hu6⟩ : ∃ u, H5 b = some u := by
              have m2 : b = g ∨ b = d ∨ b = L := by simp at m; grind
              obtain ⟨dxg5, z1⟩ := gr5.ob
              obtain ⟨kv5, z2⟩ := gr5.dc'
              rcases m2 with rfl | rfl | rfl
              · exact ⟨_, z1⟩
              · exact ⟨_, z2⟩
              · exact ⟨_, gr5.hl⟩
            exact e6.new b u hu6 q
        have n6 : ∀ b ∈ g :: d :: L :: af :: wf :: ownF os, ∀ u, H5 b = some u → H6 b = some u := fun b m u q => by
          have z := M.off b (by simp [ownF] at m ⊢; grind)
          exact e6.keep b u z.1 z.2.1 (by simp [ntf b m]) q
        refine ⟨_, _, _, _, _, _, _, _, _, (af, wf, tf) :: os, _, G6, rfl, lt, M.go EC ?_ ?_ ?_ ?_ M.nd (fun b m => .inl m) M.old, mk2, er, ?_, nRx, ?_, sG.trans EC.sub, by simp⟩
        · intro b m
          exact (M.off b (by simp [ownF] at m ⊢; grind)).2.2.2
        · intro b m
          by_cases z : b = tf
          · rw [z]; exact g6
          · obtain ⟨u, hu6⟩ : ∃ u, H5 b = some u := by
              have m2 : b = g ∨ b = d ∨ b = L := by simp at m; grind
              obtain ⟨dxg5, z1⟩ := gr5.ob
              obtain ⟨kv5, z2⟩ := gr5.dc'
              rcases m2 with rfl | rfl | rfl
              · exact ⟨_, z1⟩
              · exact ⟨_, z2⟩
              · exact ⟨_, gr5.hl⟩
            exact e6.new b u hu6 (M.off b (by simp [ownF] at m ⊢; grind)).2.2.1
        · exact gr5.keep (fun b u e q => n6 b (by rcases e with rfl | rfl | rfl <;> simp) u q) (sameT EC.w.same (sameT e6.sub M.ch_))
        · exact .cons ⟨⟨dxf, n6 af (by simp) _ hf5⟩, (wo3.stay fun u q => k5 wf (by simp) u q).stay fun u q => n6 wf (by simp) u q, td6⟩ hgv (ft3.keep e6.sub fun b m u q => n6 b (by simp [m]) u (k5 b (by simp [m]) u q))
        · rw [hxs]
          exact e6.keep R _ nRp nRl (by simp [nRt]) (ap5 R _ (nRo g (by simp)) (nRo d (by simp)) (nRo L (by simp)) (s4 _ _ hR3))
        · exact e6.new R _ (ap5 R _ (nRo g (by simp)) (nRo d (by simp)) (nRo L (by simp)) (s4 _ _ hR3)) gRx
      cases own with
      | ite t a2 b2 => exact absurd ⟨t, a2, b2, .inl rfl⟩ hin0
      | whl t kp a2 => exact absurd ⟨t, a2, [], .inr ⟨kp, rfl⟩⟩ hin0
      | call x2 g2 as sp =>
        rw [ssD] at down
        obtain ⟨As, xs, rfl, sqs, dxs⟩ := down.tupI
        cases dxs with | cons c1 t1 => cases t1 with | cons c2 t2 => cases t2 with | cons c3 t3 => cases t3 with | cons c4 t4 => cases t4 with | cons c5 t5 =>
        cases t5; cases c1; cases c2; cases c3
        rename_i av spv
        rw [okS] at okown
        obtain ⟨okx, okas, fn, hfn2, hlen2⟩ := okown
        have fo := fok g2 fn hfn2
        refine ⟨_, rfl, As, _, _, _, rfl, rfl, sameT SG3 sqs, rfl, (show 2 ≤ sizeLine by decide), fun c hc => ?_⟩
        have E4 := EA.w.tmp (o := .tup [V.str "if", V.str "while"]) hc
        refine ⟨c, _, rfl, .inr (SqT.of upd_same), rfl, rfl, _, rfl, ?_⟩
        have s4 : Same H3 (upd H3 c (.tup [V.str "if", V.str "while"])) := sameAdd hc
        generalize upd H3 c (.tup [V.str "if", V.str "while"]) = H4 at E4 s4 ⊢
        refine ifN rfl ?_
        refine ⟨_, rfl, As, _, _, _, rfl, rfl, sameT (SG3.trans s4) sqs, rfl, rfl, _, rfl, ?_⟩
        refine if_yes rfl ?_
        refine ⟨_, rfl, As, _, rfl, sameT (SG3.trans s4) sqs, rfl, _, _, rfl, _, _, rfl, _, _, rfl, _, _, rfl, _, _, rfl, rfl, ?_⟩
        dsimp only [gName, List.set]
        have hf4 := s4 _ _ hf3
        have wo4 := wo3.same s4
        have gr4 := gr3.same s4
        have hR4 := s4 _ _ hR3
        have SG4 := SG3.trans s4
        obtain ⟨fv, hfv, dfv⟩ := hfn g2 fn hfn2
        have hfd4 : H4 fd = some (.dK kvs) := SG4 _ _ (sG _ _ hfd)
        obtain ⟨Aa, xa, rfl, sqa, dxa⟩ := c4.tupI
        have hxa := da_strsL dxa
        subst hxa
        refine ⟨_, rfl, .inl ⟨rfl, _, SqL.of hR4⟩, ?_⟩
        have dg : DGet H4 fd (.str g2) (some fv) := by
          have z := DGet.k (k := (Sum.inr g2 : Key)) hfd4
          rw [hfv] at z
          exact z
        refine ⟨_, rfl, _, rfl, fd, fv, rfl, dg, ?_⟩
        refine ⟨_, rfl, Aa, rfl, ⟨_, sameT SG4 sqa⟩, fun Ar hAr => ?_⟩
        have E5 := E4.w.tmp (o := .lst (as.map fun a => V.int (f.wf a))) hAr
        refine lc_tup (K := K) (a := Aa) (xs := as.map V.str) (fun i Hy => Hy = upd H4 Ar (.lst ((as.map fun a => V.int (f.wf a)).take i))) rfl (fun i Hy _ e => by rw [e]; exact sameT (SG4.trans (sameAdd hAr)) sqa) ?_ ?_
        · rintro i y Hy hy rfl
          rw [List.getElem?_map] at hy
          obtain ⟨z, hz, rfl⟩ := Option.map_eq_some_iff.mp hy
          have sAr : Same H4 (upd H4 Ar (.lst ((as.map fun a => V.int (f.wf a)).take i))) := sameAdd hAr
          refine ⟨rfl, _, rfl, af, C, dxf, _, _, rfl, sAr _ _ hf4, kFrame.cl, kFrame.no.get (by decide), fF_worths, _, rfl, wf, _, rfl, (wo4.same sAr).get (okas z (List.mem_of_getElem? hz)), _, upd_same, by rw [List.length_take]; have := fo.lp; rw [List.length_map]; omega, ?_⟩
          rw [updupd, List.take_succ, List.getElem?_map, hz]
          rfl
        rintro Hy rfl
        rw [List.length_map, List.take_of_length_le (by rw [List.length_map]; exact Nat.le_refl _)]
        have s5 : Same H4 (upd H4 Ar (.lst (as.map fun a => V.int (f.wf a)))) := sameAdd hAr
        have hAr5 : (upd H4 Ar (.lst (as.map fun a => V.int (f.wf a)))) Ar = some (.lst (as.map fun a => V.int (f.wf a))) := upd_same
        have nArp := E4.w.np hAr
        have nArl := E4.w.nl hAr
        generalize upd H4 Ar (.lst (as.map fun a => V.int (f.wf a))) = H5 at E5 s5 hAr5 ⊢
        refine ⟨_, rfl, fun x dx hx hdx ndx => ?_⟩
        have E6 := E5.w.tmp (o := .own x) hdx
        have hx6 : (upd H5 dx (.own x)) x = none := by rw [upd_ne ndx.symm]; exact hx
        have E7 := E6.w.tmp (o := .ins C dx []) hx6
        have s7 : Same H5 (upd (upd H5 dx (.own x)) x (.ins C dx [])) := (sameAdd hdx).trans (sameAdd hx6)
        have hx7 : (upd (upd H5 dx (.own x)) x (.ins C dx [])) x = some (.ins C dx []) := upd_same
        generalize upd (upd H5 dx (.own x)) x (.ins C dx []) = H7 at E7 s7 hx7 ⊢
        have sA : Same H3 H7 := (s4.trans s5).trans s7
        have EB : ExtO [tf, g, d, L] p l Gx Hx Gx H7 := EA.trans ((ext_off (T := []) EA.w (fun b m => absurd m List.not_mem_nil) fun b u _ q => sA b u q : ExtO [] p l Gx H3 Gx H7).more (by simp)) fun _ _ q => q
        have gx0 : Gx x = none := by
          cases q : Gx x with
          | none => rfl
          | some u =>
            have z := s5 _ _ (SG4 _ _ q)
            rw [hx] at z
            cases z
        have nx0 : ∀ b u, H5 b = some u → b ≠ x := fun b u q e => by rw [e, hx] at q; cases q
        have hl2 : fn.params.length = (as.map f.wf).length := by rw [List.length_map]; exact hlen2.symm
        have EX5 : Ext p l G0 H0 Gx H5 := ext_step (ext_step M.E EA fun b m => (M.off b (by simp [ownF] at m ⊢; grind)).2.2.2) (ext_off (T := []) EA.w (fun b m => absurd m List.not_mem_nil) fun b u _ q => s5 b u (s4 b u q) : ExtO [] p l Gx H3 Gx H5) fun b m => absurd m List.not_mem_nil
        refine ⟨p, l, x, dx, Ar, Gx, fv, .str x2, fn, as.map f.wf, rfl, EB.w, hx7, gx0, dfv.mono sG, .inl ⟨?_, nArp, nArl⟩, hl2, fo.lp, fo.lw, by have := fo.lb; omega, fun wd td2 G8 H8 e8 hwd htd2 g8w g8t g8x hx8 wo8 td8 => ⟨rfl, ?_⟩⟩
        · rw [List.map_map]
          exact s7 _ _ hAr5
        have k8 : ∀ b u, H5 b = some u → b ≠ p → b ≠ l → H8 b = some u := fun b u q n1 n2 => e8.keep b u n1 n2 (by simp [nx0 b u q]) (s7 b u q)
        have hRp : H8 R = some (.lst ((os.reverse.map fun o => V.ref o.1) ++ [V.ref af])) := k8 R _ (s5 _ _ hR4) nRp nRl
        have lfr := mk.lf
        have q2 := mk.st1
        have q3 := mk.st2
        dsimp only [List.length_cons] at lfr q2 q3
        have flen := paired_frs ft3
        refine ⟨R, _, .ref x, rfl, rfl, hRp, by rw [List.length_append, List.length_map, List.length_reverse]; simp only [List.length_cons, List.length_nil]; omega, ?_⟩
        obtain ⟨lt, er, mk2⟩ := hstep _ (StepR.call htodo nlim hfn2)
        have off9 : ∀ b ∈ g :: d :: L :: af :: wf :: tf :: ownF os, b ≠ p ∧ b ≠ l ∧ Gx b = none ∧ H0 b = none := M.off
        have kO : ∀ b ∈ g :: d :: L :: af :: wf :: tf :: ownF os, ∀ u, H3 b = some u → (upd H8 R (.lst (((os.reverse.map fun o => V.ref o.1) ++ [V.ref af]) ++ [V.ref x]))) b = some u := fun b m u q => by
          rw [upd_ne (fun e => nRo b m e.symm)]
          exact k8 b u (s5 _ _ (s4 _ _ q)) (off9 b m).1 (off9 b m).2.1
        have old3 : ∀ b ∈ g :: d :: L :: af :: wf :: tf :: ownF os, ∃ u, H3 b = some u := fun b m => by
          rcases List.mem_cons.mp m with rfl | m
          · obtain ⟨dxg3, z⟩ := gr3.ob
            exact ⟨_, z⟩
          · rcases List.mem_cons.mp m with rfl | m
            · obtain ⟨kv3, z⟩ := gr3.dc'
              exact ⟨_, z⟩
            · rcases List.mem_cons.mp m with rfl | m
              · exact ⟨_, gr3.hl⟩
              · rcases List.mem_cons.mp m with rfl | m
                · exact ⟨_, hf3⟩
                · rcases List.mem_cons.mp m with rfl | m
                  · obtain ⟨kv3, z, _⟩ := wo3
                    exact ⟨_, z⟩
                  · rcases List.mem_cons.mp m with rfl | m
                    · exact ⟨_, htf3⟩
                    · exact ft3.old b m
        have newN : ∀ b ∈ g :: d :: L :: af :: wf :: tf :: ownF os, b ≠ x ∧ b ≠ wd ∧ b ≠ td2 := fun b m => by
          obtain ⟨u, q⟩ := old3 b m
          have q5 := s5 _ _ (s4 _ _ q)
          have q7 := s7 _ _ q5
          exact ⟨nx0 b u q5, fun e => by (rw [e, hwd] at q7; cases q7), fun e => by (rw [e, htd2] at q7; cases q7)⟩
        have nxw : x ≠ wd := fun e => by rw [← e, hx7] at hwd; cases hwd
        have nxt : x ≠ td2 := fun e => by rw [← e, hx7] at htd2; cases htd2
        have nwt : wd ≠ td2 := fun e => by
          obtain ⟨kv, z, _⟩ := wo8
          obtain ⟨tz, z2, _⟩ := td8
          rw [e, z2] at z
          cases z
        have nRx' : R ≠ x := nx0 R _ (s5 _ _ hR4)
        have nRw : R ≠ wd := fun e => by have z := s7 _ _ (s5 _ _ hR4); rw [e, hwd] at z; cases z
        have nRt2 : R ≠ td2 := fun e => by have z := s7 _ _ (s5 _ _ hR4); rw [e, htd2] at z; cases z
        have EX7 : Ext p l G0 H0 Gx H7 := ext_step M.E EB fun b m => (M.off b (by simp [ownF] at m ⊢; grind)).2.2.2
        have g8R : G8 R = none := e8.new R _ (s7 _ _ (s5 _ _ hR4)) gRx
        have E9 : ExtO [R, x, tf, g, d, L] p l Gx Hx G8 (upd H8 R (.lst (((os.reverse.map fun o => V.ref o.1) ++ [V.ref af]) ++ [V.ref x]))) := by
          refine ((EB.more (by simp)).trans (e8.more (by simp)) fun b m q => ?_).trans (ExtO.own e8.w (by simp) nRp nRl g8R) fun _ _ q => q
          rcases List.mem_cons.mp m with rfl | m
          · exact g8R
          · rcases List.mem_cons.mp m with rfl | m
            · exact g8x
            · obtain ⟨u, q3⟩ := old3 b (by simp at m ⊢; grind)
              exact e8.new b u (s7 _ _ (s5 _ _ (s4 _ _ q3))) q
        refine ⟨_, _, _, _, _, _, _, _, _, (x, wd, td2) :: (af, wf, tf) :: os, _, G8, rfl, lt, M.go E9 ?_ ?_ ?_ ?_ ?_ ?_ M.old, mk2, er, ?_, ?_, g8R, sG.trans E9.sub, by simp⟩
        · intro b m
          rcases List.mem_cons.mp m with rfl | m
          · exact hR0
          · rcases List.mem_cons.mp m with rfl | m
            · exact EX5.old hx
            · exact (off9 b (by simp at m ⊢; grind)).2.2.2
        · intro b m
          rcases List.mem_cons.mp m with rfl | m
          · exact g8R
          · rcases List.mem_cons.mp m with rfl | m
            · exact g8x
            · obtain ⟨u, q3⟩ := old3 b (by simp at m ⊢; grind)
              exact e8.new b u (s7 _ _ (s5 _ _ (s4 _ _ q3))) (off9 b (by simp at m ⊢; grind)).2.2.1
        · exact gr3.keep (fun b u e q => kO b (by rcases e with rfl | rfl | rfl <;> simp) u q) (sameT E9.w.same (sameT e8.sub M.ch_))
        · refine .cons (gv := .str x2) ⟨⟨dx, by rw [upd_ne nRx'.symm]; exact hx8⟩, wo8.stay fun u q => by rw [upd_ne nRw.symm]; exact q, td8.keep (Same.refl G8) fun u q => by rw [upd_ne nRt2.symm]; exact q⟩ (fun _ => rfl) ?_
          exact .cons ⟨⟨dxf, kO af (by simp) _ hf3⟩, wo3.stay fun u q => kO wf (by simp) u q, ⟨ts, kO tf (by simp) _ htf3, dts2.mono e8.sub⟩⟩ hgv (ft3.keep e8.sub fun b m u q => kO b (by simp [m]) u q)
        · have nd2 : (g :: d :: L :: af :: wf :: tf :: ownF os).Nodup := M.nd
          show (g :: d :: L :: x :: wd :: td2 :: af :: wf :: tf :: ownF os).Nodup
          refine (List.perm_middle (a := x) (l₁ := [g, d, L]) (l₂ := wd :: td2 :: af :: wf :: tf :: ownF os)).nodup_iff.mpr (List.nodup_cons.mpr ⟨?_, (List.perm_middle (a := wd) (l₁ := [g, d, L]) (l₂ := td2 :: af :: wf :: tf :: ownF os)).nodup_iff.mpr (List.nodup_cons.mpr ⟨?_, (List.perm_middle (a := td2) (l₁ := [g, d, L]) (l₂ := af :: wf :: tf :: ownF os)).nodup_iff.mpr (List.nodup_cons.mpr ⟨?_, nd2⟩)⟩)⟩)
          · intro m
            rcases (show x = wd ∨ x = td2 ∨ x ∈ g :: d :: L :: af :: wf :: tf :: ownF os by simp at m ⊢; grind) with m | m | m
            · exact nxw m
            · exact nxt m
            · exact (newN x m).1 rfl
          · intro m
            rcases (show wd = td2 ∨ wd ∈ g :: d :: L :: af :: wf :: tf :: ownF os by simp at m ⊢; grind) with m | m
            · exact nwt m
            · exact (newN wd m).2.1 rfl
          · intro m
            exact (newN td2 (by simp at m ⊢; grind)).2.2 rfl
        · intro b m
          rcases (show b = x ∨ b = wd ∨ b = td2 ∨ b ∈ af :: wf :: tf :: ownF os by simp [ownF] at m ⊢; grind) with rfl | rfl | rfl | m
          · exact .inr ⟨E5.w.np hx, E5.w.nl hx, g8x, EX5.old hx⟩
          · exact .inr ⟨EB.w.np hwd, EB.w.nl hwd, g8w, EX7.old hwd⟩
          · exact .inr ⟨EB.w.np htd2, EB.w.nl htd2, g8t, EX7.old htd2⟩
          · exact .inl m
        · rw [upd_same, List.reverse_cons, List.map_append, hxs]
          rfl
        · intro b m
          rcases (show b = x ∨ b = wd ∨ b = td2 ∨ b ∈ g :: d :: L :: af :: wf :: tf :: ownF os by simp [ownF] at m ⊢; grind) with rfl | rfl | rfl | m
          · exact nRx'
          · exact nRw
          · exact nRt2
          · exact nRo b m
      | op op =>
        rw [ssD, opD_eq] at down
        obtain ⟨As, xs, rfl, sqs, dxs⟩ := down.tupI
        cases dxs with | cons dw t3 =>
        cases dw
        rename_i rest
        refine ⟨_, rfl, As, _, _, _, rfl, rfl, sameT SG3 sqs, atI_zero _ _, (show 2 ≤ sizeLine by decide), fun c hc => ?_⟩
        have E4 := EA.w.tmp (o := .tup [V.str "if", V.str "while"]) hc
        refine ⟨c, _, rfl, .inr (SqT.of upd_same), rfl, rfl, _, rfl, ?_⟩
        have s4 : Same H3 (upd H3 c (.tup [V.str "if", V.str "while"])) := sameAdd hc
        generalize upd H3 c (.tup [V.str "if", V.str "while"]) = H4 at E4 s4 ⊢
        refine ifN (opW_in op) ?_
        refine ⟨_, rfl, As, _, _, _, rfl, rfl, sameT (SG3.trans s4) sqs, atI_zero _ _, rfl, _, rfl, ?_⟩
        refine ifN (decide_eq_false fun e => opW_call op (by injection e)) ?_
        have dop : Da K Gx (.ref As) (opD op) := by
          rw [opD_eq]
          exact down
        refine ⟨_, rfl, _, rfl, af, C, dxf, _, _, rfl, s4 _ _ hf3, kFrame.cl, kFrame.no.get (by decide), fF_worths, _, rfl, ?_⟩
        have gr4 := gr3.same s4
        have wo4 := wo3.same s4
        obtain ⟨dxg4, hg4⟩ := gr4.ob
        have okop : okO f.ns op := by rw [okS] at okown; exact okown
        have lc : cells.length < 100000 := by
          have q1 := mk.cl
          have q2 := mk.st1
          have q3 := mk.st2
          dsimp only at q1 q2 q3
          omega
        refine ⟨_, wf, Gx, f.ns, f.wf, op, g, d, L, ch, cells, cs, n, lim, st + 1, rfl, SG3.trans s4, dop, okop, wo4, gr4, (ngdl wf (by simp)).2.1, cpos, lc, fun hd => ?_, fun wf' cells' n' hd H5 wo5 gr5 ap5 => ?_⟩
        · have er := hend _ (StepR.fault htodo nlim hd)
          refine ⟨_, rfl, ?_⟩
          refine if_yes rfl ?_
          refine ⟨_, rfl, af, C, dxf, _, _, rfl, s4 _ _ hf3, kFrame.cl, kFrame.no.get (by decide), fF_name, ?_⟩
          have EB : Ext p l G0 H0 Gx H4 := ext_step (ext_step M.E EA fun b m => ?_) (ext_off (T := []) EA.w (fun b m => absurd m List.not_mem_nil) fun b u _ q => s4 b u q) fun b m => absurd m List.not_mem_nil
          · have offL := M.off L (by simp)
            refine ⟨_, rfl, _, rfl, g, dxg4, _, rfl, hg4, rfl, p, l, g, d, L, ch, Gx, cells, cs, n, lim, st + 1, rfl, EB.w, gr4, offL.1, offL.2.1, fun v G5 H5 e5 d5 => ?_⟩
            have hg5 := e5.keep g _ (EB.w.insp hg4) (EB.w.insl hg4) hg4
            refine ⟨_, rfl, g, CG, dxg4, _, _, rfl, hg5, kGround.cl, kGround.no.get (by decide), gF_steps, (show 5 ≤ sizeLine by decide), fun c2 hc2 => ?_⟩
            have e6 := e5.w.put (o := .tup [V.str "fault", V.str f.name, wv, v, V.int (st + 1)]) hc2
            refine kk _ _ _ ((EB.trans W0 e5).trans W0 e6) ?_
            rw [er]
            exact .tup (SqT.of upd_same) (.cons (.str _) (.cons (.str _) (.cons (dway.mono (e5.sub.trans e6.sub)) (.cons (d5.mono e6.sub) (.cons (.int _) .nil)))))
          · rcases List.mem_cons.mp m with rfl | m
            · exact offt.2.2.2
            · exact (M.off b (by simp at m ⊢; grind)).2.2.2
        · obtain ⟨lt, er, mk2⟩ := hstep _ (StepR.plain htodo nlim hd)
          refine ⟨_, rfl, ?_⟩
          refine ifN rfl ?_
          have offw := M.off wf (by simp [ownF])
          have E5 : ExtO [wf, g, d, L] p l Gx H4 Gx H5 := ext_off E4.w (fun b m => by
            obtain ⟨n1, n2, n3, _⟩ := M.off b (by simp [ownF] at m ⊢; grind)
            exact ⟨n1, n2, n3⟩) fun b u n q => ap5 b u (fun e => n (by rw [e]; simp)) (fun e => n (by rw [e]; simp)) (fun e => n (by rw [e]; simp)) (fun e => n (by rw [e]; simp)) q
          have EB : ExtO [tf, wf, g, d, L] p l Gx Hx Gx H5 := ((EA.more (by simp)).trans ((ext_off (T := []) EA.w (fun b m => absurd m List.not_mem_nil) fun b u _ q => s4 b u q : ExtO [] p l Gx H3 Gx H4).more (by simp)) fun _ _ q => q).trans (E5.more (by simp)) fun _ _ q => q
          have nwo : ∀ b ∈ af :: tf :: ownF os, b ≠ wf := fun b m e => by
            subst e
            have nd2 : (g :: d :: L :: af :: b :: tf :: ownF os).Nodup := M.nd
            simp only [List.nodup_cons, List.mem_cons, not_or] at nd2 m
            grind
          have k5 : ∀ b ∈ af :: tf :: ownF os, ∀ u, H3 b = some u → H5 b = some u := fun b m u q => by
            have z := ngdl b (by simp at m ⊢; grind)
            exact ap5 b u (nwo b m) z.1 z.2.1 z.2.2 (s4 b u q)
          refine ⟨_, _, _, _, _, _, _, _, _, (af, wf, tf) :: os, _, Gx, rfl, lt, M.go EB ?_ ?_ gr5 ?_ M.nd (fun b m => .inl m) M.old, mk2, er, ?_, nRx, gRx, sG, by simp⟩
          · intro b m
            exact (M.off b (by simp [ownF] at m ⊢; grind)).2.2.2
          · intro b m
            exact (M.off b (by simp [ownF] at m ⊢; grind)).2.2.1
          · exact .cons ⟨⟨dxf, k5 af (by simp) _ hf3⟩, wo5, ⟨ts, k5 tf (by simp) _ htf3, dts2⟩⟩ hgv (ft3.keep (Same.refl Gx) fun b m u q => k5 b (by simp [m]) u q)
          · rw [hxs]
            exact ap5 R _ (nRo wf (by simp)) (nRo g (by simp)) (nRo d (by simp)) (nRo L (by simp)) (s4 _ _ hR3)
end
end L2.Hx

/-! The program's run. -/
namespace L2.Hx
open PySem PySem.Spec PyProof.Rows
theorem ps_never {X : Cx} {st : Stmt} : PS X st (fun _ _ _ => False) := ⟨fun _ _ _ _ _ _ h => h.elim⟩
theorem findF_snoc (as : List Fn) (b : Fn) (x : Str) : findF (as ++ [b]) x = (findF as x).or (if b.name = x then some b else none) := by
  unfold findF
  rw [List.find?_append]
  congr 1
  rw [List.find?_cons]
  by_cases h : b.name = x
  · rw [decide_eq_true h, if_pos h]
  · rw [decide_eq_false h, if_neg h]
    rfl
theorem findF_none {as : List Fn} {x : Str} (h : ¬ x ∈ as.map (·.name)) : findF as x = none := by
  unfold findF
  refine List.find?_eq_none.mpr fun f m e => ?_
  exact h (List.mem_map.mpr ⟨f, m, of_decide_eq_true e⟩)
theorem paired_mono {α β : Type} {P Q : α → β → Prop} (h : ∀ a b, P a b → Q a b) : ∀ {as : List α} {bs : List β}, Paired P as bs → Paired Q as bs
  | _, _, .nil => .nil
  | _, _, .cons q t => .cons (h _ _ q) (paired_mono h t)
def st0 (fn : Fn) (vals : List Int) (cells : Cells) : MSt := ⟨[newFr fn vals "nil"], cells, 0, 0⟩
def spRun (K : PySem.W.Frag) : Sp := fun vs H Q _ => ∃ (p l Ar ch : Addr) (G : Hp) (pv hv : V) (nm : Str) (lim : Int) (fns : List Fn) (fn : Fn) (vals : List Int) (cells : Cells) (cs : List Int), vs = [pv, .str nm, .ref Ar, hv, .ref ch, .int lim] ∧ Wd p l G H ∧
  Da K G pv (.tuple (fns.map fnD)) ∧ (fns.map (·.name)).Nodup ∧ fns.length ≤ 400 ∧ FnsOk fns ∧ findF fns nm = some fn ∧ SqT K G Ar (vals.map V.int) ∧ fn.params.length = vals.length ∧ PlCells K G hv cells ∧ (cells.map (·.1)).Pairwise (· < ·) ∧ cells.length ≤ 3000 ∧
  SqT K G ch (cs.map V.int) ∧ cs.length ≤ 100000 ∧ (∀ c ∈ cs, 0 ≤ c) ∧ 0 ≤ lim ∧ lim ≤ 10000 ∧ ∀ v G' H', Ext p l G H G' H' → Da K G' v (resD (runM fns cs lim (st0 fn vals cells))) → Q v H'
theorem st0_ok {fns : List Fn} {fn : Fn} {vals : List Int} {cells : Cells} {cs : List Int} {lim : Int} {nm : Str} (F : FnsOk fns) (hf : findF fns nm = some fn) (hc : cells.length ≤ 3000) (h0 : 0 ≤ lim) (h1 : lim ≤ 10000) : MOk fns cs lim (st0 fn vals cells) := by
  have fo := F nm fn hf
  refine ⟨fun f m => ?_, trivial, by show cells.length ≤ _; omega, Int.le_refl _, h0, h1, Nat.le_refl _⟩
  rw [List.mem_singleton.mp m]
  refine ⟨List.mem_cons_of_mem _ List.mem_cons_self, fun q mq => ?_, ?_⟩
  · obtain ⟨m1, m2⟩ := queF_mem (show q ∈ queF [] 0 fn.body from mq)
    exact ⟨100, okL_iff.mp fo.body _ m1, by rw [m2]; decide⟩
  · show (queF [] 0 fn.body).length ≤ _
    rw [queF_len]
    have := fo.lb
    show fn.body.length ≤ 50 * ((0 : Int).toNat + 1)
    simp
    omega
section
variable {P : Program} {w : World} {K : PySem.W.Frag} {mg : Str → Option Value} {base : Heap} {C CG : Addr}
theorem DS_run (T : Txt K mg) (S : FrS K mg C) (SG : GrS K mg CG) : DfS P w K mg base 5 "run" s_run ["program", "name", "args", "heap", "choices", "limit"] (spRun K) := by
  have kFrame := S.k
  have kGround := SG.k
  have D_Frame___init__ := D_frameI (P := P) (w := w) (base := base) T S
  have D_Ground___init__ := D_groundI (P := P) (w := w) (base := base) T SG
  have D_outcome := D_out (P := P) (w := w) (base := base) T S SG
  obtain ⟨f, fdd, Sd⟩ := T.d_run
  refine DfS.mk' (k := 4) Sd sc_run (fun vs H Q E h => ?_) (fun cdv A outer s H vs Q E hgd hr h => ?_)
  · obtain ⟨p, l, Ar, ch, G, pv, hv, nm, lim, fns, fn, vals, cells, cs, rfl, _⟩ := h
    rfl
  · obtain ⟨p, l, Ar, ch, G, vp, hv, nm, lim, fns, fn, vals, cells, cs, rfl, W, dpv, nodup, lfn, fok, hfind, sqv, hlen, plc, asc, lcells, sqc, lcs, cpos, lim0, lim1, kk⟩ := h
    have hu := hu_of hr
    have big : (1100000 : Nat) ≤ sizeLine := by decide
    refine ⟨_, (pss_cons (ps_setDc (i := 6) (X := (cxOf CX0 P w K mg base ["program", "name", "args", "heap", "choices", "limit", "functions", "function"] "run" (defScope s_run) f cdv A outer s H E).nox) (own := [("function", 7)]) (tk := tOp (rIxT K) (tVar 7) (tC (.int 0))) (tv := tVar 7) (g := gName 7) (tt := tYes) rfl sc_run.nd rfl rfl (sw_trueD rfl rfl rfl (by decide +kernel)) (pi_tup (pv 0)) (blkOk_by (own := [("function", 7)]) (N := ["program", "name", "args", "heap", "choices", "limit", "functions", "function"]) (sc := defScope s_run) (by decide +kernel)) (fun _ _ _ _ _ => pg_name (i := 7) sc_run.nd rfl (.inl rfl)) (fun _ _ _ _ _ => pts_nil) (fun _ _ _ _ _ => (pe_ix ix_tup (pv 7) pe_int (fun _ _ => rfl))) (fun _ _ _ _ _ => (pv 7)))
      (pss_cons (ps_if (pt_cmp (pc_dnotin hu (pv 1) (pv 6))) (pss_one ps_never) pss_nil)
      (pss_one (ps_ret (pe_d D_outcome hgd hr (pa_cons (pv 6) (pa_cons (pe_mk D_Frame___init__ hgd hr kFrame.at_ (pa_cons (pe_dget hu (pv 6) (pv 1) (fun _ _ => rfl)) (pa_cons (pv 2) (pa_cons pe_non pa_nil)))) (pa_cons (pe_mk D_Ground___init__ hgd hr kGround.at_ (pa_cons (pv 3) (pa_cons (pv 4) (pa_cons (pv 5) pa_nil)))) pa_nil)))))))), ?_⟩
    obtain ⟨Ap, xs, rfl, sqp, dxs⟩ := dpv.tupI
    have lx := dxs.length
    rw [List.length_map] at lx
    refine ⟨_, rfl, Ap, rfl, ⟨_, sameT W.same sqp⟩, fun D hD => ?_⟩
    refine dc_tup (K := K) (a := Ap) (xs := xs) (fun i Hx => ∃ kvs, Hx = upd H D (.dK kvs) ∧ kvs.length ≤ i ∧ FnsAt K G kvs (fns.take i)) ⟨[], rfl, Nat.le_refl _, fun x f e => by rw [List.take_zero] at e; cases e⟩ ?_ ?_ ?_
    · rintro i Hx _ ⟨kvs, rfl, _⟩
      exact sameT (W.same.trans (sameAdd hD)) sqp
    · rintro i x Hx hx ⟨kvs, rfl, lk, hk⟩
      obtain ⟨d0, hd0, dx⟩ := dxs.get hx
      rw [List.getElem?_map] at hd0
      obtain ⟨fi, hfi, rfl⟩ := Option.map_eq_some_iff.mp hd0
      have lt := (List.getElem?_eq_some_iff.mp hfi).1
      obtain ⟨Af, ys, rfl, sqf, dys⟩ := dx.tupI
      cases dys with | cons c1 t1 =>
      cases c1
      refine ⟨rfl, ⟨_, rfl, Af, _, _, _, rfl, rfl, sameT (W.same.trans (sameAdd hD)) sqf, atI_zero _ _, _, rfl, kvs, Sum.inr fi.name, rfl, upd_same, by omega, _, updupd, by have := length_putK kvs (Sum.inr fi.name : Key) (V.ref Af); omega, fun x g e => ?_⟩⟩
      rw [List.take_succ, hfi] at e
      rw [show (fns.take i ++ (some fi).toList) = fns.take i ++ [fi] from rfl, findF_snoc] at e
      have hni : findF (fns.take i) fi.name = none := findF_none fun m => by
        obtain ⟨q, mq, eq⟩ := List.mem_map.mp m
        obtain ⟨j, hj⟩ := List.mem_iff_getElem?.mp mq
        have lj := (List.getElem?_eq_some_iff.mp hj).1
        rw [List.length_take] at lj
        rw [List.getElem?_take, if_pos (by omega)] at hj
        obtain ⟨l1, e1⟩ := List.getElem?_eq_some_iff.mp hj
        obtain ⟨l2, e2⟩ := List.getElem?_eq_some_iff.mp hfi
        have := (List.pairwise_iff_getElem.mp nodup) j i (by rw [List.length_map]; exact l1) (by rw [List.length_map]; exact l2) (by omega)
        rw [List.getElem_map, List.getElem_map, e1, e2] at this
        exact this eq
      rw [valV_put]
      by_cases z : x = fi.name
      · subst z
        rw [hni, Option.none_or, if_pos rfl] at e
        cases e
        exact ⟨_, if_pos rfl, dx⟩
      · rw [if_neg (fun q => z q.symm), Option.or_none] at e
        rw [if_neg (fun q => z (by injection q))]
        exact hk x g e
    rintro Hx ⟨kvs, rfl, lk, hk⟩
    rw [List.take_of_length_le (by omega)] at hk
    dsimp only [gName, List.set]
    have ED := W.put (o := .dK kvs) hD
    have gD1 : (upd G D (.dK kvs)) D = some (.dK kvs) := upd_same
    have hD1 : (upd H D (.dK kvs)) D = some (.dK kvs) := upd_same
    have hk1 : FnsAt K (upd G D (.dK kvs)) kvs fns := fun x g e => let ⟨v, a, b⟩ := hk x g e; ⟨v, a, b.mono ED.sub⟩
    generalize upd G D (.dK kvs) = G1 at ED gD1 hk1
    generalize upd H D (.dK kvs) = H1 at ED hD1 ⊢
    obtain ⟨fv, hfv, dfv⟩ := hk1 nm fn hfind
    have fo := fok nm fn hfind
    have dg : DGet H1 D (.str nm) (some fv) := by
      have z := DGet.k (k := (Sum.inr nm : Key)) hD1
      rw [hfv] at z
      exact z
    refine ⟨_, rfl, _, rfl, D, some fv, rfl, dg, _, rfl, ?_⟩
    refine ifN rfl ?_
    refine ⟨_, rfl, _, rfl, _, rfl, D, fv, rfl, dg, _, rfl, fun x dx hx hdx ndx => ?_⟩
    have E6 := ED.w.tmp (o := .own x) hdx
    have hx6 : (upd H1 dx (.own x)) x = none := by rw [upd_ne ndx.symm]; exact hx
    have E7 := E6.w.tmp (o := .ins C dx []) hx6
    have s7 : Same H1 (upd (upd H1 dx (.own x)) x (.ins C dx [])) := (sameAdd hdx).trans (sameAdd hx6)
    have hx7 : (upd (upd H1 dx (.own x)) x (.ins C dx [])) x = some (.ins C dx []) := upd_same
    generalize upd (upd H1 dx (.own x)) x (.ins C dx []) = H7 at E7 s7 hx7 ⊢
    have EX7 : Ext p l G H G1 H7 := (ED.trans W E6).trans W E7
    have gx1 : G1 x = none := by
      cases q : G1 x with
      | none => rfl
      | some u =>
        have z := ED.w.same _ _ q
        rw [hx] at z
        cases z
    refine ⟨p, l, x, dx, Ar, G1, fv, .non, fn, vals, rfl, E7.w, hx7, gx1, dfv, .inr (sameT ED.sub sqv), hlen, fo.lp, fo.lw, by have := fo.lb; omega, fun wd td G8 H8 e8 hwd htd g8w g8t g8x hx8 wo8 td8 => ⟨rfl, ?_⟩⟩
    have hx0 : H x = none := ED.old hx
    have hwd0 : H wd = none := EX7.old hwd
    have htd0 : H td = none := EX7.old htd
    have EX8 : Ext p l G H G8 H8 := ext_step EX7 e8 fun b m => by rw [List.mem_singleton.mp m]; exact hx0
    refine ⟨_, rfl, _, rfl, _, rfl, fun g dxg hg hdxg ndxg => ?_⟩
    have F6 := e8.w.tmp (o := .own g) hdxg
    have hg6 : (upd H8 dxg (.own g)) g = none := by rw [upd_ne ndxg.symm]; exact hg
    have F7 := F6.w.tmp (o := .ins CG dxg []) hg6
    have t7 : Same H8 (upd (upd H8 dxg (.own g)) g (.ins CG dxg [])) := (sameAdd hdxg).trans (sameAdd hg6)
    have hg7 : (upd (upd H8 dxg (.own g)) g (.ins CG dxg [])) g = some (.ins CG dxg []) := upd_same
    generalize upd (upd H8 dxg (.own g)) g (.ins CG dxg []) = H9 at F7 t7 hg7 ⊢
    have EX9 : Ext p l G H G8 H9 := (EX8.trans W F6).trans W F7
    have gg8 : G8 g = none := e8.w.same.free hg
    have plc8 : PlCells K G8 hv cells := by
      obtain ⟨a, ps, e, z1, z2⟩ := plc
      exact ⟨a, ps, e, z1.same EX9.sub, paired_mono (fun q c z => sameT EX9.sub z) z2⟩
    refine ⟨p, l, g, dxg, ch, G8, hv, cells, cs, lim, rfl, F7.w, hg7, gg8, plc8, sameT EX9.sub sqc, asc, by omega, lcs, fun d L G10 H10 e10 hd hL g10d g10L g10g gr10 => ⟨rfl, ?_⟩⟩
    have hg0 : H g = none := EX8.old hg
    have EX10 : Ext p l G H G10 H10 := ext_step EX9 e10 fun b m => by rw [List.mem_singleton.mp m]; exact hg0
    have sG10 := e8.sub.trans e10.sub
    have k10 : ∀ b u, b ≠ p → b ≠ l → H8 b = some u → H10 b = some u := fun b u n1 n2 q => e10.keep b u n1 n2 (fun m => by
      rw [List.mem_singleton.mp m, hg] at q
      cases q) (t7 b u q)
    have nxp := e8.w.insp hx8
    have nxl := e8.w.insl hx8
    obtain ⟨kvw, zw, _⟩ := id wo8
    have nwp := e8.w.dkp zw
    have nwl := e8.w.dkl zw
    have ntp := E7.w.np htd
    have ntl := E7.w.nl htd
    obtain ⟨tsd, zt, _⟩ := id td8
    have g10 : ∀ b u, H8 b = some u → G8 b = none → G10 b = none := fun b u q g => e10.new b u (t7 b u q) g
    have new8 : ∀ b u, H8 b = some u → b ≠ g ∧ b ≠ d ∧ b ≠ L := fun b u q => by
      have z := t7 b u q
      exact ⟨fun e => by (rw [e, hg] at q; cases q), fun e => by (rw [e, hd] at z; cases z), fun e => by (rw [e, hL] at z; cases z)⟩
    obtain ⟨x1, x2, x3⟩ := new8 x _ hx8
    obtain ⟨w1, w2, w3⟩ := new8 wd _ zw
    obtain ⟨t1, t2, t3⟩ := new8 td _ zt
    have nxw : x ≠ wd := fun e => by rw [← e, hx7] at hwd; cases hwd
    have nxt : x ≠ td := fun e => by rw [← e, hx7] at htd; cases htd
    have nwt : wd ≠ td := fun e => by rw [e, zt] at zw; cases zw
    have gr9 := gr10
    refine ⟨p, l, D, x, g, wd, td, d, L, ch, G, H, G10, kvs, fns, cs, lim, newFr fn vals "nil", cells, 0, 0, rfl, ⟨EX10, sameT EX10.sub sqc, gr10, .cons (gv := .non) ⟨⟨dx, k10 x _ nxp nxl hx8⟩, wo8.stay fun u q => k10 wd u nwp nwl q, td8.keep e10.sub fun u q => k10 td u ntp ntl q⟩ (fun e => absurd rfl e) .nil, ?_, ?_⟩, W, sG10 _ _ gD1, fun x g e => let ⟨v, a, b⟩ := hk1 x g e; ⟨v, a, b.mono sG10⟩, fok, st0_ok fok hfind lcells lim0 lim1, cpos, kk⟩
    · show [g, d, L, x, wd, td].Nodup
      have a1 := gr10.ngd
      have a2 := gr10.ngL
      have a3 := gr10.ndL
      simp only [List.nodup_cons, List.mem_cons, List.not_mem_nil, or_false, not_or, List.nodup_nil, and_true, not_false_eq_true]
      grind
    · intro b m
      rcases (show b = g ∨ b = d ∨ b = L ∨ b = x ∨ b = wd ∨ b = td by simp [ownF] at m; grind) with rfl | rfl | rfl | rfl | rfl | rfl
      · exact ⟨F7.w.insp hg7, F7.w.insl hg7, g10g, hg0⟩
      · exact ⟨F7.w.np hd, F7.w.nl hd, g10d, EX9.old hd⟩
      · exact ⟨F7.w.np hL, F7.w.nl hL, g10L, EX9.old hL⟩
      · exact ⟨nxp, nxl, g10 _ _ hx8 g8x, hx0⟩
      · exact ⟨nwp, nwl, g10 _ _ zw g8w, hwd0⟩
      · exact ⟨ntp, ntl, g10 _ _ zt g8t, htd0⟩
theorem D_run (T : Txt K mg) (S : FrS K mg C) (SG : GrS K mg CG) : Df P w K mg base 5 "run" ["program", "name", "args", "heap", "choices", "limit"] (spRun K) := (DS_run T S SG).df
end
end L2.Hx

/-! The plain machine under another limit. -/
namespace L2.Hx
open PySem PySem.Spec PyProof.Rows
/-- the steps that are told -/
def stR : Res → Option Int
  | .done _ _ st => some st
  | .fault _ _ _ st => some st
  | .long => none
/-- what a turn has to do with the limit: nothing (b false), or it is a step -/
def ByLim (fns : List Fn) (cs : List Int) (s : MSt) (b : Bool) (r : MSt ⊕ Res) : Prop := ∀ lim2, stepM fns cs lim2 s = if b = true ∧ s.st = lim2 then .inr .long else r
def AftLim (st : Int) (b : Bool) : MSt ⊕ Res → Prop
  | .inl s2 => s2.st = st + if b = true then 1 else 0
  | .inr q => ∀ z, stR q = some z → z = st + if b = true then 1 else 0
theorem step_lim {fns : List Fn} {cs : List Int} {lim : Int} {s : MSt} {r : MSt ⊕ Res} (h : stepM fns cs lim s = r) (nl : r ≠ .inr .long) : ∃ b, ByLim fns cs s b r ∧ AftLim s.st b r := by
  subst h
  obtain ⟨fs, cells, n, st⟩ := s
  cases fs with
  | nil => exact absurd rfl nl
  | cons f fs =>
    cases ht : f.todo with
    | nil =>
      refine ⟨false, fun lim2 => ?_, ?_⟩
      · rw [if_neg (by simp)]
        unfold stepM
        dsimp only
        rw [ht]
      · unfold stepM
        dsimp only
        rw [ht]
        cases fs with
        | nil =>
          intro z hz
          cases hz
          exact (Int.add_zero _).symm
        | cons c fs => exact (Int.add_zero _).symm
    | cons p td =>
      obtain ⟨way, own⟩ := p
      have nst : st ≠ lim := fun e => nl (by
        unfold stepM
        dsimp only
        rw [ht]
        exact if_pos e)
      refine ⟨true, fun lim2 => ?_, ?_⟩
      · by_cases e : st = lim2
        · rw [if_pos ⟨rfl, e⟩]
          unfold stepM
          dsimp only
          rw [ht]
          exact if_pos e
        · rw [if_neg fun q => e q.2]
          unfold stepM
          dsimp only
          rw [ht]
          dsimp only
          rw [if_neg e, if_neg nst]
      · unfold stepM
        dsimp only
        rw [ht]
        dsimp only
        rw [if_neg nst]
        cases own with
        | ite t a b => rfl
        | whl t k a => rfl
        | call x g as sp =>
          dsimp only
          cases hf : findF fns g with
          | none =>
            intro z hz
            cases hz
          | some fn => rfl
        | op o =>
          dsimp only
          cases hd : doOp cs f.wf cells n o with
          | none =>
            intro z hz
            cases hz
            rfl
          | some r => rfl
theorem comes_least {fns : List Fn} {cs : List Int} {lim : Int} : ∀ (k : Nat) (s : MSt) (z : Int), s.st ≤ lim → stR (comesF fns cs lim k s) = some z →
    s.st ≤ z ∧ z ≤ lim ∧ (∀ lim2, z ≤ lim2 → runM fns cs lim2 s = comesF fns cs lim k s) ∧ ∀ lim2, s.st ≤ lim2 → lim2 < z → runM fns cs lim2 s = .long
  | 0, s, z, _, h => by cases h
  | k + 1, s, z, hl, h => by
    rw [comesF] at h ⊢
    cases e : stepM fns cs lim s with
    | inr q =>
      rw [e] at h
      have h : stR q = some z := h
      obtain ⟨b, hb, hz⟩ := step_lim e (by intro q2; injection q2 with q2; rw [q2] at h; cases h)
      have hz := hz z h
      have hlim := hb lim
      cases b with
      | false =>
        have hz : z = s.st + 0 := hz
        refine ⟨by omega, by omega, fun lim2 l2 => runM_end (by rw [hb, if_neg (by simp)]), fun lim2 a c => by omega⟩
      | true =>
        have hz : z = s.st + 1 := hz
        have nst : s.st ≠ lim := fun e2 => by
          rw [e, if_pos ⟨rfl, e2⟩] at hlim
          injection hlim with hlim
          rw [hlim] at h
          cases h
        refine ⟨by omega, by omega, fun lim2 l2 => runM_end (by rw [hb, if_neg fun q => by have := q.2; omega]), fun lim2 a c => runM_end (by rw [hb, if_pos ⟨rfl, by omega⟩])⟩
    | inl s2 =>
      rw [e] at h
      have h : stR (comesF fns cs lim k s2) = some z := h
      obtain ⟨b, hb, hs⟩ := step_lim e (by intro q2; cases q2)
      obtain ⟨_, l2⟩ := step_less e hl
      obtain ⟨i1, i2, i3, i4⟩ := comes_least k s2 z l2 h
      have hlim := hb lim
      cases b with
      | false =>
        have hs : s2.st = s.st + 0 := hs
        have go : ∀ lim2, stepM fns cs lim2 s = .inl s2 := fun lim2 => by rw [hb, if_neg (by simp)]
        exact ⟨by omega, i2, fun lim2 a => (runM_go (by omega) (go lim2)).trans (i3 lim2 a), fun lim2 a c => (runM_go a (go lim2)).trans (i4 lim2 (by omega) c)⟩
      | true =>
        have hs : s2.st = s.st + 1 := hs
        have go : ∀ lim2, s.st ≠ lim2 → stepM fns cs lim2 s = .inl s2 := fun lim2 n2 => by rw [hb, if_neg fun q => n2 q.2]
        refine ⟨by omega, i2, fun lim2 a => (runM_go (by omega) (go lim2 (by omega))).trans (i3 lim2 a), fun lim2 a c => ?_⟩
        by_cases e2 : s.st = lim2
        · exact runM_end (by rw [hb, if_pos ⟨rfl, e2⟩])
        · exact (runM_go a (go lim2 e2)).trans (i4 lim2 (by omega) c)
/-- a run that ends tells so under any limit that lets it; under a lesser one it is long -/
theorem runM_least {fns : List Fn} {cs : List Int} {lim : Int} {s : MSt} {z : Int} (hl : s.st ≤ lim) (h : stR (runM fns cs lim s) = some z) :
    s.st ≤ z ∧ z ≤ lim ∧ (∀ lim2, z ≤ lim2 → runM fns cs lim2 s = runM fns cs lim s) ∧ ∀ lim2, s.st ≤ lim2 → lim2 < z → runM fns cs lim2 s = .long := comes_least _ s z hl h
end L2.Hx

/-! Runs that come to a fault, wherever it stands. -/
namespace L2.Hx
open PySem PySem.Spec PyProof.Rows
def wrongs : List Op := [.get "a" "b", .put "b" "a", .free "b", .put "b" "nil", .get "b" "b"]
theorem wrong_none {wf : Str → Int} {cells : Cells} {n : Nat} (h : getC cells (wf "b") = none) {o : Op} (m : o ∈ wrongs) : doOp [] wf cells n o = none := by
  unfold wrongs at m
  rcases List.mem_cons.mp m with rfl | m
  · unfold doOp; dsimp only; rw [h]
  rcases List.mem_cons.mp m with rfl | m
  · unfold doOp; dsimp only; rw [h]
  rcases List.mem_cons.mp m with rfl | m
  · unfold doOp; dsimp only; rw [h]
  rcases List.mem_cons.mp m with rfl | m
  · unfold doOp; dsimp only; rw [h]
  · rw [List.mem_singleton.mp m]
    unfold doOp; dsimp only; rw [h]
/-- plain statements, one after another -/
def exec (wf : Str → Int) (cells : Cells) : List Op → Option ((Str → Int) × Cells)
  | [] => some (wf, cells)
  | o :: r => match doOp [] wf cells 0 o with
    | some (w, c, 0) => exec w c r
    | _ => none
def ops (os : List Op) : List Ss := os.map Ss.op
theorem run_exec {fns : List Fn} {lim : Int} {wrong : Op} {wf2 : Str → Int} {cells2 : Cells} {fs : List Fr} {y : List Int} {td : List (List Int × Ss)} : ∀ (pre : List Op) (i : Nat) {f : Fr} {cells : Cells} {st : Int}, exec f.wf cells pre = some (wf2, cells2) → doOp [] wf2 cells2 0 wrong = none → f.todo = queF y i (ops (pre ++ [wrong])) ++ td → st + pre.length + 1 ≤ lim →
    runM fns [] lim ⟨f :: fs, cells, 0, st⟩ = .fault f.name (y ++ [((i + pre.length : Nat) : Int)]) cells2 (st + pre.length + 1)
  | [], i, f, cells, st, he, hn, ht, hl => by
    cases he
    rw [runM_end (stepR_of (.fault (way := y ++ [(i : Int)]) (td := td) ht (by simp at hl; omega) hn))]
    simp
  | o :: pre, i, f, cells, st, he, hn, ht, hl => by
    rw [exec] at he
    rw [List.length_cons] at hl
    cases hd : doOp [] f.wf cells 0 o with
    | none => rw [hd] at he; cases he
    | some r =>
      obtain ⟨w, c, n⟩ := r
      rw [hd] at he
      cases n with
      | succ n => cases he
      | zero =>
        have ht2 : f.todo = (y ++ [(i : Int)], .op o) :: (queF y (i + 1) (ops (pre ++ [wrong])) ++ td) := ht
        rw [runM_go (by show st ≤ lim; omega) (stepR_of (.plain ht2 (by omega) hd))]
        rw [run_exec pre (i + 1) (f := { f with wf := w, todo := _ }) he hn rfl (by omega)]
        rw [List.length_cons, show i + 1 + pre.length = i + (pre.length + 1) by omega, show st + 1 + (pre.length : Int) + 1 = st + ((pre.length + 1 : Nat) : Int) + 1 by omega]
/-- from the one heap the statements come to a fault there, behind so many steps -/
def Hits (own : List Ss) (way : List Int) (steps : Nat) (due : Cells) : Prop := ∀ (fns : List Fn) (lim : Int) (f : Fr) (fs : List Fr) (y : List Int) (td : List (List Int × Ss)) (st : Int), f.wf "nil" = 0 → f.wf "q" = 6 → f.todo = queF y 0 own ++ td → st + steps + 1 ≤ lim →
  runM fns [] lim ⟨f :: fs, [(5, 0)], 0, st⟩ = .fault f.name (y ++ way) due (st + steps + 1)
theorem hits_ops {pre : List Op} {wrong : Op} {due : Cells} (m : wrong ∈ wrongs) (h : ∀ wf : Str → Int, wf "nil" = 0 → wf "q" = 6 → ∃ wf2, exec wf [(5, 0)] pre = some (wf2, due) ∧ getC due (wf2 "b") = none) : Hits (ops (pre ++ [wrong])) [(pre.length : Int)] pre.length due := fun fns lim f fs y td st h0 h6 ht hl => by
  obtain ⟨wf2, he, hb⟩ := h f.wf h0 h6
  rw [run_exec pre 0 he (wrong_none hb m) ht hl, Nat.zero_add]
theorem ex0 (wf : Str → Int) (h0 : wf "nil" = 0) : ∃ wf2, exec wf [(5, 0)] [.set "b" "nil"] = some (wf2, [(5, 0)]) ∧ getC [(5, 0)] (wf2 "b") = none := ⟨upW wf "b" (wf "nil"), rfl, by
  have : upW wf "b" (wf "nil") "b" = 0 := by rw [h0]; rfl
  rw [this]
  rfl⟩
theorem ex1 (wf : Str → Int) (h6 : wf "q" = 6) : ∃ wf2, exec wf [(5, 0)] [.set "b" "q"] = some (wf2, [(5, 0)]) ∧ getC [(5, 0)] (wf2 "b") = none := ⟨upW wf "b" (wf "q"), rfl, by
  have : upW wf "b" (wf "q") "b" = 6 := by rw [h6]; rfl
  rw [this]
  rfl⟩
theorem ex2 (wf : Str → Int) : ∃ wf2, exec wf [(5, 0)] [.new "b" "nil", .free "b"] = some (wf2, [(5, 0)]) ∧ getC [(5, 0)] (wf2 "b") = none := ⟨upW wf "b" 1, rfl, rfl⟩
theorem ex3 (wf : Str → Int) (h6 : wf "q" = 6) : ∃ wf2, exec wf [(5, 0)] [.new "a" "q", .get "b" "a"] = some (wf2, [(1, 6), (5, 0)]) ∧ getC [(1, 6), (5, 0)] (wf2 "b") = none := by
  refine ⟨upW (upW wf "a" 1) "b" (wf "q"), ?_, ?_⟩
  · have : exec wf [(5, 0)] [.new "a" "q", .get "b" "a"] = some (upW (upW wf "a" 1) "b" (wf "q"), [(1, wf "q"), (5, 0)]) := rfl
    rw [this, h6]
  · have : upW (upW wf "a" 1) "b" (wf "q") "b" = 6 := by rw [h6]; rfl
    rw [this]
    rfl
theorem ex4 (wf : Str → Int) (h0 : wf "nil" = 0) : ∃ wf2, exec wf [(5, 0)] [.new "b" "nil", .new "a" "b", .free "b", .get "b" "a"] = some (wf2, [(2, 1), (5, 0)]) ∧ getC [(2, 1), (5, 0)] (wf2 "b") = none := by
  refine ⟨upW (upW (upW wf "b" 1) "a" 2) "b" 1, rfl, rfl⟩
theorem queF_app (y : List Int) : ∀ (i : Nat) (a b : List Ss), queF y i (a ++ b) = queF y i a ++ queF y (i + a.length) b
  | i, [], b => by rw [List.nil_append, queF]; rfl
  | i, s :: a, b => by
    rw [List.cons_append, queF, queF_app y (i + 1) a b, queF, List.length_cons, show i + 1 + a.length = i + (a.length + 1) by omega]
    rfl
theorem hits_more {own more : List Ss} {way : List Int} {steps : Nat} {due : Cells} (h : Hits own way steps due) : Hits (own ++ more) way steps due := fun fns lim f fs y td st h0 h6 ht hl => by
  rw [queF_app, List.append_assoc] at ht
  exact h fns lim f fs y _ st h0 h6 ht hl
def resets (k : Nat) : List Op := List.replicate k (.set "result" "nil")
theorem run_resets {fns : List Fn} {lim : Int} {cells : Cells} {y : List Int} {fs : List Fr} {rest : List Ss} {td : List (List Int × Ss)} : ∀ (k i : Nat) {f : Fr} {st : Int}, f.wf "nil" = 0 → f.wf "q" = 6 → f.todo = queF y i (ops (resets k) ++ rest) ++ td → st + k ≤ lim →
    ∃ f2 : Fr, f2.name = f.name ∧ f2.wf "nil" = 0 ∧ f2.wf "q" = 6 ∧ f2.todo = queF y (i + k) rest ++ td ∧ runM fns [] lim ⟨f :: fs, cells, 0, st⟩ = runM fns [] lim ⟨f2 :: fs, cells, 0, st + k⟩
  | 0, i, f, st, h0, h6, ht, hl => ⟨f, rfl, h0, h6, ht, by simp⟩
  | k + 1, i, f, st, h0, h6, ht, hl => by
    have ht2 : f.todo = (y ++ [(i : Int)], .op (.set "result" "nil")) :: (queF y (i + 1) (ops (resets k) ++ rest) ++ td) := ht
    obtain ⟨f2, a, b, c, d, e⟩ := run_resets (fns := fns) (lim := lim) (cells := cells) (fs := fs) (rest := rest) (td := td) k (i + 1) (f := { f with wf := upW f.wf "result" (f.wf "nil"), todo := queF y (i + 1) (ops (resets k) ++ rest) ++ td }) (st := st + 1) h0 h6 rfl (by omega)
    refine ⟨f2, a, b, c, by rw [d, show i + 1 + k = i + (k + 1) by omega], ?_⟩
    rw [runM_go (by show st ≤ lim; omega) (stepR_of (.plain ht2 (by omega) (rfl : doOp [] f.wf cells 0 (.set "result" "nil") = some (upW f.wf "result" (f.wf "nil"), cells, 0))))]
    rw [e, show st + 1 + (k : Int) = st + ((k + 1 : Nat) : Int) by omega]
/-- one statement more around, behind some that change nothing -/
theorem hits_in {own : List Ss} {way : List Int} {steps k : Nat} {due : Cells} (h : Hits own way steps due) {s : Ss} {z : Int} {t : Ts} (hi : ∃ a b, s = .ite t a b ∨ ∃ k, s = .whl t k a) (hq : ∀ (wf : Str → Int) (way : List Int), wf "nil" = 0 → wf "q" = 6 → ∃ rest, inF way (holdsT wf [] 0 t) s = queF (way ++ [z]) 0 own ++ rest) (ht0 : turnT [] 0 t = 0) : Hits (ops (resets k) ++ [s]) ([(k : Int), z] ++ way) (steps + k + 1) due := fun fns lim f fs y td st h0 h6 ht hl => by
  obtain ⟨f2, n2, a, b, c, e⟩ := run_resets (fns := fns) (lim := lim) (cells := [(5, 0)]) (fs := fs) (rest := [s]) (td := td) (st := st) k 0 h0 h6 ht (by omega)
  rw [e]
  rw [Nat.zero_add] at c
  have c2 : f2.todo = (y ++ [(k : Int)], s) :: td := c
  rw [runM_go (by show st + (k : Int) ≤ lim; omega) (stepR_of (.inner (t := t) c2 (by omega) hi))]
  obtain ⟨rest, hr⟩ := hq f2.wf (y ++ [(k : Int)]) a b
  rw [ht0, hr, List.append_assoc]
  have hh := h fns lim { f2 with todo := queF (y ++ [(k : Int)] ++ [z]) 0 own ++ (rest ++ td) } fs (y ++ [(k : Int)] ++ [z]) (rest ++ td) (st + k + 1) a b rfl (by omega)
  rw [hh]
  rw [← n2, show st + (k : Int) + 1 + (steps : Int) + 1 = st + ((steps + k + 1 : Nat) : Int) + 1 by omega]
  simp
end L2.Hx

/-! Words for what is told: as in 33 and 34. -/
namespace L2.Hx
open PySem PySem.Spec PyProof.Rows
abbrev rev6 {α : Type} (xs : List α) : List α := xs.reverse
theorem rev6_rel {zs : List V} {ws : List Value} (h : Vals zs ws) : Vals (rev6 zs) (rev6 ws) := Vals.reverse h
def spG2 (K : PySem.W.Frag) {α : Type} (Ψ : α → List PyData → Prop) (φ : α → PyData → Prop) : Sp := fun vs H Q _ => ∃ (p l : Addr) (G : Hp) (us : List V) (ds : List PyData) (x : α), vs = .ref p :: us ∧ Wd p l G H ∧ DaAll K G us ds ∧ Ψ x ds ∧ ∀ v d G' H', Ext p l G H G' H' → Da K G' v d → φ x d → Q v H'
theorem td_call2 {K : PySem.W.Frag} {p l : Addr} {σ : St} {G : Hp} {α : Type} {Ψ : α → List PyData → Prop} {φ : α → PyData → Prop} {tr : TA} {Φ : List PyData → Prop} {i : Nat} (x : α) (h : TDs K p l σ G tr Φ) (hΨ : ∀ ds, Φ ds → Ψ x ds) (hd : σ[i]? = some (some (.ref p))) : TD K p l σ G (tCall (spG2 K Ψ φ) [] E0 (tCons (tVar i) tr)) (φ x) := fun G1 H Q W s k =>
  ⟨_, hd, h G1 H _ W s fun vs ds G2 H2 e da f => ⟨p, l, G2, vs, ds, x, by rw [List.append_nil], e.w, da, hΨ ds f, fun v d G3 H3 e3 dd ff => k v d G3 H3 (e.trans W e3) dd ff⟩⟩
theorem DaAll.one {K : PySem.W.Frag} {G : Hp} {us : List V} {d : PyData} (h : DaAll K G us [d]) : ∃ v, us = [v] ∧ Da K G v d := by
  cases h with
  | cons a t =>
    cases t
    exact ⟨_, rfl, a⟩
theorem DaAll.two {K : PySem.W.Frag} {G : Hp} {us : List V} {d e : PyData} (h : DaAll K G us [d, e]) : ∃ v u, us = [v, u] ∧ Da K G v d ∧ Da K G u e := by
  cases h with
  | cons a t =>
    cases t with
    | cons b t =>
      cases t
      exact ⟨_, _, rfl, a, b⟩
theorem DaAll.three {K : PySem.W.Frag} {G : Hp} {us : List V} {d e f : PyData} (h : DaAll K G us [d, e, f]) : ∃ v u x, us = [v, u, x] ∧ Da K G v d ∧ Da K G u e ∧ Da K G x f := by
  cases h with
  | cons a t =>
    obtain ⟨u, x, rfl, b, c⟩ := t.two
    exact ⟨_, _, _, rfl, a, b, c⟩
theorem DaAll.four {K : PySem.W.Frag} {G : Hp} {us : List V} {d e f g : PyData} (h : DaAll K G us [d, e, f, g]) : ∃ v u x y, us = [v, u, x, y] ∧ Da K G v d ∧ Da K G u e ∧ Da K G x f ∧ Da K G y g := by
  cases h with
  | cons a t =>
    obtain ⟨u, x, y, rfl, b, c, d⟩ := t.three
    exact ⟨_, _, _, _, rfl, a, b, c, d⟩
def spNo : Sp := fun _ _ _ _ => False
theorem run_pos {fns : List Fn} {cs : List Int} {lim : Int} {fn : Fn} {vals : List Int} {cells : Cells} {z : Int} (h0 : 0 ≤ lim) (h : stR (runM fns cs lim (st0 fn vals cells)) = some z) : 0 ≤ z ∧ z ≤ lim ∧ (runM fns cs z (st0 fn vals cells) = runM fns cs lim (st0 fn vals cells)) ∧ (z ≠ 0 → runM fns cs (z - 1) (st0 fn vals cells) = .long) := by
  obtain ⟨a, b, c, d⟩ := runM_least (s := st0 fn vals cells) h0 h
  have a : (0 : Int) ≤ z := a
  exact ⟨a, b, c z (Int.le_refl _), fun hz => d (z - 1) (by show (0 : Int) ≤ z - 1; omega) (by omega)⟩
theorem paired_in {α β : Type} {P Q : α → β → Prop} : ∀ {as : List α} {bs : List β}, (∀ a b, a ∈ as → P a b → Q a b) → Paired P as bs → Paired Q as bs
  | _, _, _, .nil => .nil
  | _, _, h, .cons q t => .cons (h _ _ List.mem_cons_self q) (paired_in (fun a b m => h a b (List.mem_cons_of_mem _ m)) t)
section
variable {K : PySem.W.Frag} {p l : Addr} {σ : St} {G : Hp} {φ ψ : PyData → Prop} {t ta tb te tp tn th tc tl : TE} {tt : TT} {d : PyData} {ds : List PyData}
theorem tx_td {d : PyData} (h : TX K p l σ G ta d) (f : φ d) : TD K p l σ G ta φ := fun G1 H Q W s k => h G1 H Q W s fun v d2 G2 H2 e da q => k v d2 G2 H2 e da (by rw [q]; exact f)
theorem td_tupX {Φ : List PyData → Prop} (ha : TD K p l σ G ta fun d => ∃ ds, d = .list ds ∧ Φ ds) : TD K p l σ G (tCB (rTpOf K) (tCons ta tNil)) (fun d => ∃ ds, d = .tuple ds ∧ Φ ds) := fun G1 H Q W s k =>
  ha G1 H _ W s fun v d G2 H2 e da f => by
    obtain ⟨ds, rfl, f⟩ := f
    cases da with
    | @lst a xs _ t1 a1 =>
      refine ⟨a, xs, rfl, .inl ⟨SqL.of (e.w.same _ _ t1), fun q hq => ?_⟩⟩
      have e4 := e.w.put (o := .tup xs) hq
      exact k _ _ _ _ (e.trans W e4) (.tup (SqT.of upd_same) (a1.mono e4.sub)) ⟨ds, rfl, f⟩
theorem td_catX {as : List PyData} {φ2 : PyData → Prop} (ha : TX K p l σ G ta (.tuple as)) (hb : TD K p l σ G tb φ2) (h : ∀ d, φ2 d → ∃ bs, d = .tuple bs ∧ as.length + bs.length ≤ sizeLine ∧ φ (.tuple (as ++ bs))) : TD K p l σ G (tOp (rCatA K) ta tb) φ := fun G1 H Q W s k =>
  ha G1 H _ W s fun v d G2 H2 e da f => hb G2 H2 _ e.w (s.trans e.sub) fun u d2 G3 H3 e3 da3 f3 => by
    subst f
    obtain ⟨bs, rfl, hz, hφ⟩ := h d2 f3
    obtain ⟨a, xs, rfl, t1, a1⟩ := da.tupI
    obtain ⟨b, ys, rfl, t2, a2⟩ := da3.tupI
    have E := e.trans W e3
    refine ⟨a, b, xs, ys, rfl, rfl, sameT (e3.sub.trans e3.w.same) t1, sameT e3.w.same t2, by rw [a1.length, a2.length]; omega, fun hx => ?_, fun hx hy => ?_, fun hx hy c hc => ?_⟩
    · subst hx
      cases a1
      exact k _ _ _ _ E da3 hφ
    · subst hy
      cases a2
      rw [List.append_nil] at hφ
      exact k _ _ _ _ E (da.mono e3.sub) hφ
    · have e4 := e3.w.put (o := .tup (xs ++ ys)) hc
      exact k _ _ _ _ (E.trans W e4) (.tup (SqT.of upd_same) (((a1.mono e3.sub).append a2).mono e4.sub)) hφ
theorem tx_repr {d : PyData} (h : TX K p l σ G ta d) (ok : Okd 60 16000000 d) : TX K p l σ G (tCB (rRepr K) (tCons ta tNil)) (.str d.shown) := fun G1 H Q W s k =>
  h G1 H _ W s fun v d' G2 H2 e da f => by
    subst f
    obtain ⟨a, b⟩ := ok_show ok.ok
    refine ⟨v, _, G2, rfl, e.w.same, da, a, ok.dp, ?_, k _ _ _ _ e (.str _) rfl⟩
    have := ok.sz
    have : (16000000 : Nat) ≤ sizeLine := by decide
    omega
theorem tt_ne {x y : Str} (ha : TX K p l σ G ta (.str x)) (hb : TX K p l σ G tb (.str y)) : ∀ (G1 H : Hp) (Q : Bool → Hp → Prop), Wd p l G1 H → Same G G1 → (∀ G2 H2, Ext p l G1 H G2 H2 → Q (!decide (x = y)) H2) → tTest (tOp rNe ta tb) σ H Q := fun G1 H Q W s k =>
  ha G1 H _ W s fun v d G2 H2 e da f => hb G2 H2 _ e.w (s.trans e.sub) fun u d2 G3 H3 e3 da3 f3 => by
    subst f f3
    cases da
    cases da3
    refine ⟨rfl, _, rfl, ?_⟩
    rw [show decide (V.str x = V.str y) = decide (x = y) from decide_eq_decide.mpr ⟨fun h => by injection h, fun h => by rw [h]⟩]
    exact k _ _ (e.trans W e3)
theorem pl_da {v : V} {cells : Cells} (h : PlCells K G v cells) : Da K G v (cellsD cells) := by
  obtain ⟨a, ps, rfl, q, pr⟩ := h
  have g : ∀ {ps : List Addr} {cs : Cells}, Paired (fun p (c : Int × Int) => SqT K G p [.int c.1, .int c.2]) ps cs → DaAll K G (ps.map V.ref) (cs.map fun c => .tuple [.int c.1, .int c.2]) := by
    intro ps cs h
    induction h with
    | nil => exact .nil
    | cons h t ih => exact .cons (.tup h (.cons (.int _) (.cons (.int _) .nil))) ih
  exact .tup q.sqT (g pr)
theorem PlCells.mono {G' : Hp} {v : V} {cells : Cells} (s : Same G G') (h : PlCells K G v cells) : PlCells K G' v cells := by
  obtain ⟨a, ps, rfl, q, pr⟩ := h
  exact ⟨a, ps, rfl, q.same s, paired_in (fun a b _ h => sameT s h) pr⟩
def TPl (K : PySem.W.Frag) (p l : Addr) (σ : St) (G : Hp) (t : TE) (cells : Cells) : Prop := ∀ (G1 H : Hp) (Q : VK), Wd p l G1 H → Same G G1 → (∀ v G2 H2, Ext p l G1 H G2 H2 → PlCells K G2 v cells → Q v H2) → t σ H Q
theorem tpl_var {i : Nat} {v : V} {cells : Cells} (hi : σ[i]? = some (some v)) (h : PlCells K G v cells) : TPl K p l σ G (tVar i) cells := fun G1 H Q W s k => ⟨v, hi, k v _ _ (Ext.refl W) (h.mono s)⟩
theorem tx_runS {nm : Str} {lim : Int} {fns : List Fn} {fn : Fn} {vals : List Int} {cells : Cells} {cs : List Int} (hp : TX K p l σ G tp (.tuple (fns.map fnD))) (hn : TX K p l σ G tn (.str nm)) (ha : TX K p l σ G ta (.tuple (vals.map .int))) (hh : TPl K p l σ G th cells) (hc : TX K p l σ G tc (.tuple (cs.map .int))) (hl : TX K p l σ G tl (.int lim))
    (nd : (fns.map (·.name)).Nodup) (lf : fns.length ≤ 400) (fo : FnsOk fns) (hf : findF fns nm = some fn) (hv : fn.params.length = vals.length) (asc : (cells.map (·.1)).Pairwise (· < ·)) (lc : cells.length ≤ 3000) (ls : cs.length ≤ 100000) (pos : ∀ c ∈ cs, 0 ≤ c) (l0 : 0 ≤ lim) (l1 : lim ≤ 10000) :
    TX K p l σ G (tCall (spRun K) [] E0 (tCons tp (tCons tn (tCons ta (tCons th (tCons tc (tCons tl tNil))))))) (resD (runM fns cs lim (st0 fn vals cells))) := fun G1 H Q W s k =>
  hp G1 H _ W s fun vp d G2 H2 e2 d2 f2 => hn _ _ _ e2.w (s.trans e2.sub) fun vn d G3 H3 e3 d3 f3 => ha _ _ _ e3.w ((s.trans e2.sub).trans e3.sub) fun va d G4 H4 e4 d4 f4 =>
  hh _ _ _ e4.w (((s.trans e2.sub).trans e3.sub).trans e4.sub) fun vh G5 H5 e5 h5 => hc _ _ _ e5.w ((((s.trans e2.sub).trans e3.sub).trans e4.sub).trans e5.sub) fun vc d G6 H6 e6 d6 f6 =>
  hl _ _ _ e6.w (((((s.trans e2.sub).trans e3.sub).trans e4.sub).trans e5.sub).trans e6.sub) fun vl d G7 H7 e7 d7 f7 => by
    subst f2 f3 f4 f6 f7
    cases d7
    cases d3
    obtain ⟨Ar, xs, rfl, sq, dx⟩ := d4.tupI
    have ex := da_ints dx
    subst ex
    obtain ⟨ch, ys, rfl, sqc, dc⟩ := d6.tupI
    have ey := da_ints dc
    subst ey
    have E := ((((e2.trans W e3).trans W e4).trans W e5).trans W e6).trans W e7
    exact ⟨p, l, Ar, ch, G7, vp, vh, nm, lim, fns, fn, vals, cells, cs, rfl, e7.w, d2.mono ((((e3.sub.trans e4.sub).trans e5.sub).trans e6.sub).trans e7.sub), nd, lf, fo, hf, sameT ((e5.sub.trans e6.sub).trans e7.sub) sq, hv, h5.mono (e6.sub.trans e7.sub), asc, lc, sameT e7.sub sqc, ls, pos, l0, l1, fun v G8 H8 e8 d8 => k _ _ _ _ (E.trans W e8) d8 rfl⟩
theorem tx_runK {nm : Str} {lim : Int} {fns : List Fn} {fn : Fn} {vals : List Int} {cells : Cells} {cs : List Int} (hp : TX K p l σ G tp (.tuple (fns.map fnD))) (hn : TX K p l σ G tn (.str nm)) (ha : TX K p l σ G ta (.tuple (vals.map .int))) (hh : TPl K p l σ G th cells) (hc : TX K p l σ G tc (.tuple (cs.map .int))) (hl : TX K p l σ G tl (.int lim))
    (nd : (fns.map (·.name)).Nodup) (lf : fns.length ≤ 400) (fo : FnsOk fns) (hf : findF fns nm = some fn) (hv : fn.params.length = vals.length) (asc : (cells.map (·.1)).Pairwise (· < ·)) (lc : cells.length ≤ 3000) (ls : cs.length ≤ 100000) (pos : ∀ c ∈ cs, 0 ≤ c) (l0 : 0 ≤ lim) (l1 : lim ≤ 10000) :
    TX K p l σ G (tKw (spRun K) rev6 6 E0 (tCons tl (tCons tc (tCons th (tCons ta (tCons tn (tCons tp tNil))))))) (resD (runM fns cs lim (st0 fn vals cells))) := fun G1 H Q W s k =>
  hl G1 H _ W s fun vl d G2 H2 e2 d7 f2 => hc _ _ _ e2.w (s.trans e2.sub) fun vc d G3 H3 e3 d6 f3 => hh _ _ _ e3.w ((s.trans e2.sub).trans e3.sub) fun vh G4 H4 e4 h5 =>
  ha _ _ _ e4.w (((s.trans e2.sub).trans e3.sub).trans e4.sub) fun va d G5 H5 e5 d4 f5 => hn _ _ _ e5.w ((((s.trans e2.sub).trans e3.sub).trans e4.sub).trans e5.sub) fun vn d G6 H6 e6 d3 f6 =>
  hp _ _ _ e6.w (((((s.trans e2.sub).trans e3.sub).trans e4.sub).trans e5.sub).trans e6.sub) fun vp d G7 H7 e7 d2 f7 => by
    subst f2 f3 f5 f6 f7
    cases d7
    cases d3
    obtain ⟨Ar, xs, rfl, sq, dx⟩ := d4.tupI
    have ex := da_ints dx
    subst ex
    obtain ⟨ch, ys, rfl, sqc, dc⟩ := d6.tupI
    have ey := da_ints dc
    subst ey
    have E := ((((e2.trans W e3).trans W e4).trans W e5).trans W e6).trans W e7
    exact ⟨rfl, p, l, Ar, ch, G7, vp, vh, nm, lim, fns, fn, vals, cells, cs, rfl, e7.w, d2, nd, lf, fo, hf, sameT (e6.sub.trans e7.sub) sq, hv, h5.mono ((e5.sub.trans e6.sub).trans e7.sub), asc, lc, sameT (((e4.sub.trans e5.sub).trans e6.sub).trans e7.sub) sqc, ls, pos, l0, l1, fun v G8 H8 e8 d8 => k _ _ _ _ (E.trans W e8) d8 rfl⟩
end
theorem tt_eqS {K : PySem.W.Frag} {p l : Addr} {σ : St} {G : Hp} {ta tb : TE} {x y : Str} (ha : TX K p l σ G ta (.str x)) (hb : TX K p l σ G tb (.str y)) : ∀ (G1 H : Hp) (Q : Bool → Hp → Prop), Wd p l G1 H → Same G G1 → (∀ G2 H2, Ext p l G1 H G2 H2 → Q (decide (x = y)) H2) → tTest (tOp rEq ta tb) σ H Q := fun G1 H Q W s k =>
  ha G1 H _ W s fun v d G2 H2 e da f => hb G2 H2 _ e.w (s.trans e.sub) fun u d2 G3 H3 e3 da3 f3 => by
    subst f f3
    cases da
    cases da3
    refine ⟨rfl, _, rfl, ?_⟩
    rw [show decide (V.str x = V.str y) = decide (x = y) from decide_eq_decide.mpr ⟨fun h => by injection h, fun h => by rw [h]⟩]
    exact k _ _ (e.trans W e3)
theorem tx_andV {K : PySem.W.Frag} {p l : Addr} {σ : St} {G : Hp} {ta tb : TE} {b : Bool} (ha : TX K p l σ G ta (.bool true)) (hb : TX K p l σ G tb (.bool b)) : TX K p l σ G (tAndV ta tb) (.bool b) := fun G1 H Q W s k =>
  ha G1 H _ W s fun v d G2 H2 e da f => by
    subst f
    cases da
    exact ⟨true, rfl, if_yes rfl (hb G2 H2 _ e.w (s.trans e.sub) fun u d2 G3 H3 e3 da3 f3 => k _ _ _ _ (e.trans W e3) da3 f3)⟩
section
variable {K : PySem.W.Frag} {p l : Addr} {σ : St} {G : Hp} {φ ψ : PyData → Prop} {t ta tb te tp tn th tc tl : TE} {tt : TT} {d : PyData} {ds : List PyData}
def TTx (K : PySem.W.Frag) (p l : Addr) (σ : St) (G : Hp) (t : TT) (b : Bool) : Prop := ∀ (G1 H : Hp) (Q : Bool → Hp → Prop), Wd p l G1 H → Same G G1 → (∀ G2 H2, Ext p l G1 H G2 H2 → Q b H2) → t σ H Q
theorem ttx_of {b : Bool} (ha : TX K p l σ G ta (.bool b)) : TTx K p l σ G (tTest ta) b := fun G1 H Q W s k => ha G1 H _ W s fun v d G2 H2 e da f => by
  subst f
  cases da
  exact ⟨b, rfl, k _ _ e⟩
theorem ttx_eqS {x y : Str} (ha : TX K p l σ G ta (.str x)) (hb : TX K p l σ G tb (.str y)) : TTx K p l σ G (tTest (tOp rEq ta tb)) (decide (x = y)) := tt_eqS ha hb
theorem ttx_neS {x y : Str} (ha : TX K p l σ G ta (.str x)) (hb : TX K p l σ G tb (.str y)) : TTx K p l σ G (tTest (tOp rNe ta tb)) (!decide (x = y)) := tt_ne ha hb
theorem ttx_eqI {x y : Int} (ha : TX K p l σ G ta (.int x)) (hb : TX K p l σ G tb (.int y)) : TTx K p l σ G (tTest (tOp rEq ta tb)) (decide (x = y)) := fun G1 H Q W s k =>
  ha G1 H _ W s fun v d G2 H2 e da f => hb G2 H2 _ e.w (s.trans e.sub) fun u d2 G3 H3 e3 da3 f3 => by
    subst f f3
    cases da
    cases da3
    refine ⟨rfl, _, rfl, ?_⟩
    rw [show decide (V.int x = V.int y) = decide (x = y) from decide_eq_decide.mpr ⟨fun h => by injection h, fun h => by rw [h]⟩]
    exact k _ _ (e.trans W e3)
theorem tx_eqI {x y : Int} (ha : TX K p l σ G ta (.int x)) (hb : TX K p l σ G tb (.int y)) : TX K p l σ G (tOp rEq ta tb) (.bool (decide (x = y))) := fun G1 H Q W s k =>
  ha G1 H _ W s fun v d G2 H2 e da f => hb G2 H2 _ e.w (s.trans e.sub) fun u d2 G3 H3 e3 da3 f3 => by
    subst f f3
    cases da
    cases da3
    refine ⟨rfl, ?_⟩
    rw [show decide (V.int x = V.int y) = decide (x = y) from decide_eq_decide.mpr ⟨fun h => by injection h, fun h => by rw [h]⟩]
    exact k _ _ _ _ (e.trans W e3) (.bl _) rfl
theorem ttx_ltI {x y : Int} (ha : TX K p l σ G ta (.int x)) (hb : TX K p l σ G tb (.int y)) : TTx K p l σ G (tTest (tOp (rI0 fun i j => V.bl (decide (i < j))) ta tb)) (decide (x < y)) := fun G1 H Q W s k =>
  ha G1 H _ W s fun v d G2 H2 e da f => hb G2 H2 _ e.w (s.trans e.sub) fun u d2 G3 H3 e3 da3 f3 => by
    subst f f3
    cases da
    cases da3
    exact ⟨_, _, rfl, rfl, _, rfl, k _ _ (e.trans W e3)⟩
theorem ttx_not {b : Bool} (h : TTx K p l σ G tt b) : TTx K p l σ G (tNot tt) (!b) := fun G1 H Q W s k => h G1 H _ W s fun G2 H2 e => k _ _ e
theorem ttx_or {t2 : TT} {a b : Bool} (h : TTx K p l σ G tt a) (h2 : TTx K p l σ G t2 b) : TTx K p l σ G (tOr tt t2) (a || b) := fun G1 H Q W s k => h G1 H _ W s fun G2 H2 e => by
  cases a with
  | true => exact if_yes rfl (k _ _ e)
  | false => exact if_no rfl (h2 G2 H2 Q e.w (s.trans e.sub) fun G3 H3 e3 => k _ _ (e.trans W e3))
theorem ttx_and {t2 : TT} {a b : Bool} (h : TTx K p l σ G tt a) (h2 : a = true → TTx K p l σ G t2 b) : TTx K p l σ G (tAnd tt t2) (a && b) := fun G1 H Q W s k => h G1 H _ W s fun G2 H2 e => by
  cases a with
  | true => exact if_yes rfl (h2 rfl G2 H2 Q e.w (s.trans e.sub) fun G3 H3 e3 => k _ _ (e.trans W e3))
  | false => exact if_no rfl (k _ _ e)
theorem ttx_no {t2 : TS} {tc : TS} {D : Ends} {H : Hp} {b : Bool} (h : TTx K p l σ G tt b) (hb : b = false) (W : Wd p l G H) (k : ∀ G2 H2, Ext p l G H G2 H2 → tc D σ H2) : tIfS tt t2 tc D σ H := h G H _ W (Same.refl _) fun G2 H2 e => if_no hb (k G2 H2 e)
theorem ttx_yes {t2 : TS} {tc : TS} {D : Ends} {H : Hp} {b : Bool} (h : TTx K p l σ G tt b) (hb : b = true) (W : Wd p l G H) (k : ∀ G2 H2, Ext p l G H G2 H2 → t2 D σ H2) : tIfS tt t2 tc D σ H := h G H _ W (Same.refl _) fun G2 H2 e => if_yes hb (k G2 H2 e)
theorem tfor_tup {g : TG} {tb : TS} {D : Ends} {H : Hp} {ds : List PyData} (h : TX K p l σ G ta (.tuple ds)) (W : Wd p l G H) (Pv : Hp → St → Hp → Prop) (h0 : ∀ G2 H2, Ext p l G H G2 H2 → Pv G2 σ H2) (hl : ∀ G2 σ H, Pv G2 σ H → Same G2 H)
    (hs : ∀ G2 d x σ H, Same G G2 → d ∈ ds → Da K G2 x d → Pv G2 σ H → g x σ H fun σ2 H2 => tb { D with nx := Pv G2, ct := Pv G2, bk := D.nx } σ2 H2) (hd : ∀ G2 σ H, Same G G2 → Pv G2 σ H → D.nx σ H) : tFor (iTup K ta) g tb D σ H :=
  h G H _ W (Same.refl _) fun v d G2 H2 e d2 f => by
    subst f
    obtain ⟨b, xs, rfl, sq, dx⟩ := d2.tupI
    refine ⟨b, rfl, ⟨xs, sameT e.w.same sq⟩, for_tup (D := D) (fun _ σ H => Pv G2 σ H) (h0 _ _ e) (fun i σ H _ q => sameT (hl _ _ _ q) sq) (fun i x σ H hx q => ?_) fun σ H q => hd _ _ _ e.sub q⟩
    obtain ⟨d, hd, dd⟩ := dx.get hx
    exact hs _ d x σ H e.sub (List.mem_of_getElem? hd) dd q
end
theorem find_own {fns : List Fn} {f : Fn} (nd : (fns.map (·.name)).Nodup) (m : f ∈ fns) : findF fns f.name = some f := by
  induction fns with
  | nil => exact absurd m List.not_mem_nil
  | cons g fns ih =>
    rw [List.map_cons] at nd
    obtain ⟨n1, n2⟩ := List.nodup_cons.mp nd
    unfold findF at ih ⊢
    rcases List.mem_cons.mp m with rfl | m
    · exact List.find?_cons_of_pos (p := fun g : Fn => decide (g.name = f.name)) (decide_eq_true rfl)
    · rw [List.find?_cons_of_neg (by
        rw [decide_eq_true_iff]
        intro e
        exact n1 (by rw [e]; exact List.mem_map.mpr ⟨f, m, rfl⟩))]
      exact ih n2 m
end L2.Hx

/-! Functions that go wrong: drawn. -/
namespace L2.Hx
open PySem PySem.Spec PyProof.Rows
def empS : PyData := .tuple [.tuple [.tuple [], .tuple []]]
def plainF (nm : Str) (ps ws : List Str) (body : List Ss) : Fn := ⟨nm, ps, .tuple [], ws, empS, empS, body⟩
def spPlainF (K : PySem.W.Frag) : Sp := spF K fun ds d => ∃ nm ps ws body, ds = [.str nm, .tuple (ps.map .str), .tuple (ws.map .str), .tuple (slD body)] ∧ d = fnD (plainF nm ps ws body)
def nsBad : List Str := nsOf (plainF "bad" ["q"] ["a", "b"] [])
def sizB : Nat → Nat
  | 0 => 1500
  | n + 1 => sizB n + 3000
structure OwnOk (n : Nat) (own : List Ss) : Prop where
  ok : ∀ fns, okL fns nsBad n own
  ln : own.length ≤ 5
  sz : Okd (2 * n + 2) (sizB n) (.tuple (slD own))
  ly : (PyData.tuple (slD own)).canLay0 = true
def DueOk (due : Cells) : Prop := due = [(5, 0)] ∨ due = [(1, 6), (5, 0)] ∨ due = [(2, 1), (5, 0)]
def WrongOk (own : List Ss) (due : Cells) : Prop := ∃ z : Nat, own.length = z + 1 ∧ z ≤ 4 ∧ Hits own [(z : Int)] z due ∧ OwnOk 0 own ∧ DueOk due
def AroundOk (n : Nat) (own : List Ss) (way : List Int) (steps : Nat) (due : Cells) : Prop := Hits own way steps due ∧ OwnOk n own ∧ (∀ z ∈ way, 0 ≤ z ∧ z ≤ 45) ∧ way.length ≤ 2 * n + 1 ∧ steps ≤ 3 * n + 4
def spWrong (K : PySem.W.Frag) : Sp := spG K (fun ds => ∃ kind : Int, ds = [.int kind] ∧ 0 ≤ kind ∧ kind ≤ 4) (fun d => ∃ own due, d = .tuple [.tuple (slD own), cellsD due] ∧ WrongOk own due)
def spAround (K : PySem.W.Frag) : Sp := spG2 K (fun (x : List Ss × Cells) ds => ds = [.tuple (slD x.1)] ∧ WrongOk x.1 x.2) (fun x d => ∃ (own : List Ss) (way : List Int) (steps n : Nat), d = .tuple [.tuple (slD own), wayD way, .int (steps : Int)] ∧ n ≤ 4 ∧ AroundOk n own way steps x.2)
def okOps : List Op := wrongs ++ [.set "b" "nil", .set "b" "q", .new "b" "nil", .new "a" "q", .new "a" "b", .get "b" "a", .set "result" "nil", .free "nil", .set "result" "q"]
theorem okO_bad {o : Op} (h : o ∈ okOps) : okO nsBad o := by
  have d : ∀ x : Str, x ∈ (["nil", "result", "a", "b", "q"] : List Str) → x ∈ nsBad := fun x m => m
  simp only [okOps, wrongs, List.cons_append, List.nil_append, List.mem_cons, List.not_mem_nil, or_false] at h
  rcases h with rfl | rfl | rfl | rfl | rfl | rfl | rfl | rfl | rfl | rfl | rfl | rfl | rfl | rfl
  all_goals
    unfold okO
    first
      | exact ⟨by decide +kernel, by decide +kernel⟩
      | decide +kernel
theorem op_okd {o : Op} (h : o ∈ okOps) : Okd 1 279 (opD o) ∧ (opD o).canLay0 = true := by
  simp only [okOps, wrongs, List.cons_append, List.nil_append, List.mem_cons, List.not_mem_nil, or_false] at h
  rcases h with rfl | rfl | rfl | rfl | rfl | rfl | rfl | rfl | rfl | rfl | rfl | rfl | rfl | rfl
  all_goals
    unfold opD
    exact ⟨⟨by decide +kernel, by decide +kernel, by decide +kernel⟩, by decide +kernel⟩
theorem lay_all : ∀ {ds : List PyData}, (∀ d ∈ ds, d.canLay0 = true) → PyData.canLayAll0 ds = true
  | [], _ => rfl
  | d :: ds, h => by
    rw [PyData.canLayAll0, h d List.mem_cons_self, lay_all fun x m => h x (List.mem_cons_of_mem _ m)]
    rfl
theorem slD_ops (os : List Op) : slD (ops os) = os.map opD := by
  unfold ops
  rw [slD_map, List.map_map]
  exact List.map_congr_left fun o _ => by show ssD (.op o) = _; rw [ssD]
theorem own_ops {os : List Op} (h : ∀ o ∈ os, o ∈ okOps) (hl : os.length ≤ 5) : OwnOk 0 (ops os) := by
  refine ⟨fun fns => okL_iff.mpr fun s m => ?_, by unfold ops; rw [List.length_map]; exact hl, ?_, ?_⟩
  · obtain ⟨o, mo, rfl⟩ := List.mem_map.mp m
    rw [okS]
    exact okO_bad (h o mo)
  · rw [slD_ops]
    exact Okd.mono (k := 2) (n := 1408) (Okd.tup (k := 1) (n := 279) (m := 5) (fun d m => by
      obtain ⟨o, mo, rfl⟩ := List.mem_map.mp m
      exact (op_okd (h o mo)).1) (by rw [List.length_map]; exact hl)) (by decide) (by decide)
  · rw [slD_ops]
    simp only [PyData.canLay0]
    exact lay_all fun d m => by
      obtain ⟨o, mo, rfl⟩ := List.mem_map.mp m
      exact (op_okd (h o mo)).2
theorem sizAll_app : ∀ a b : List PyData, sizAll (a ++ b) = sizAll a + sizAll b
  | [], b => by simp [sizAll]
  | x :: a, b => by rw [List.cons_append, sizAll, sizAll, sizAll_app a b]; omega
theorem lay_app : ∀ {a b : List PyData}, PyData.canLayAll0 a = true → PyData.canLayAll0 b = true → PyData.canLayAll0 (a ++ b) = true
  | [], b, _, h => h
  | d :: a, b, h, h2 => by
    rw [PyData.canLayAll0, Bool.and_eq_true] at h
    rw [List.cons_append, PyData.canLayAll0, h.1, lay_app h.2 h2]
    rfl
theorem resets_mem {k : Nat} : ∀ o ∈ resets k, o = .set "result" "nil" := fun o m => List.eq_of_mem_replicate m
theorem own_wrap {n k : Nat} {s : Ss} (hk : k ≤ 2) (ok : ∀ fns, okS fns nsBad (n + 1) s) (sz : Okd (2 * n + 3) (sizB n + 1000) (ssD s)) (ly : (ssD s).canLay0 = true) : OwnOk (n + 1) (ops (resets k) ++ [s]) := by
  have lr : (resets k).length = k := List.length_replicate
  have ho : ∀ o ∈ resets k, o ∈ okOps := fun o m => by
    rw [resets_mem o m]
    simp [okOps, wrongs]
  have e : slD (ops (resets k) ++ [s]) = (resets k).map opD ++ [ssD s] := by
    rw [slD_map, List.map_append, ← slD_map, slD_ops]
    rfl
  refine ⟨fun fns => okL_iff.mpr fun x m => ?_, by rw [List.length_append]; unfold ops; rw [List.length_map, lr]; show k + 1 ≤ 5; omega, ?_, ?_⟩
  · rcases List.mem_append.mp m with m | m
    · obtain ⟨o, mo, rfl⟩ := List.mem_map.mp m
      rw [okS]
      exact okO_bad (ho o mo)
    · rw [List.mem_singleton.mp m]
      exact ok fns
  · rw [e]
    have all : ∀ d ∈ (resets k).map opD, Okd 1 279 d := fun d m => by
      obtain ⟨o, mo, rfl⟩ := List.mem_map.mp m
      exact (op_okd (ho o mo)).1
    refine ⟨okAll_of fun d m => ?_, ?_, ?_⟩
    · rcases List.mem_append.mp m with m | m
      · exact (all d m).ok
      · rw [List.mem_singleton.mp m]
        exact sz.ok
    · have := depthAll_le (n := 2 * n + 3) (xs := (resets k).map opD ++ [ssD s]) fun d m => by
        rcases List.mem_append.mp m with m | m
        · have := (all d m).dp
          omega
        · rw [List.mem_singleton.mp m]
          exact sz.dp
      simp only [PyData.depth]
      omega
    · have h1 := sizAll_le (n := 279) (xs := (resets k).map opD) fun d m => (all d m).sz
      rw [List.length_map, lr] at h1
      have h2 : (279 + 2) * k ≤ 281 * 2 := Nat.mul_le_mul_left _ hk
      have h3 := sz.sz
      show sizAll ((resets k).map opD ++ [ssD s]) + 3 ≤ sizB n + 3000
      rw [sizAll_app]
      show _ + (siz (ssD s) + 2 + 0) + 3 ≤ _
      omega
  · rw [e]
    simp only [PyData.canLay0]
    refine lay_app (lay_all fun d m => ?_) ?_
    · obtain ⟨o, mo, rfl⟩ := List.mem_map.mp m
      exact (op_okd (ho o mo)).2
    · rw [PyData.canLayAll0, ly]
      rfl
def tNil2 : Ts := .look true "nil" "nil"
def tIs : Ts := .look true "q" "q"
def tIsnt : Ts := .look false "q" "q"
theorem t_okd (t : Ts) (h : t = tNil2 ∨ t = tIs ∨ t = tIsnt) : Okd 1 279 (tsD t) ∧ (tsD t).canLay0 = true ∧ okT nsBad t := by
  rcases h with rfl | rfl | rfl
  all_goals exact ⟨⟨by decide +kernel, by decide +kernel, by decide +kernel⟩, by decide +kernel, by unfold okT; exact ⟨by decide +kernel, by decide +kernel⟩⟩
/-- one turn of the loop -/
theorem around_step {n k : Nat} {own : List Ss} {way : List Int} {steps : Nat} {due : Cells} (hk : k ≤ 2) (h : AroundOk n own way steps due) :
    AroundOk (n + 1) (ops (resets k) ++ [.whl tNil2 .none own]) ([(k : Int), 0] ++ way) (steps + k + 1) due ∧ AroundOk (n + 1) (ops (resets k) ++ [.ite tIs own []]) ([(k : Int), 0] ++ way) (steps + k + 1) due ∧ AroundOk (n + 1) (ops (resets k) ++ [.ite tIsnt [.op (.free "nil")] own]) ([(k : Int), 1] ++ way) (steps + k + 1) due := by
  obtain ⟨hh, ok, hw, lw, ls⟩ := h
  obtain ⟨z1, l1, o1⟩ := t_okd tNil2 (.inl rfl)
  obtain ⟨z2, l2, o2⟩ := t_okd tIs (.inr (.inl rfl))
  obtain ⟨z3, l3, o3⟩ := t_okd tIsnt (.inr (.inr rfl))
  have ways : ∀ z : Int, 0 ≤ z → z ≤ 45 → ∀ x ∈ ([(k : Int), z] ++ way), 0 ≤ x ∧ x ≤ 45 := fun z a b x m => by
    rcases List.mem_append.mp m with m | m
    · rcases List.mem_cons.mp m with rfl | m
      · omega
      · rw [List.mem_singleton.mp m]
        exact ⟨a, b⟩
    · exact hw x m
  have lws : ∀ z : Int, ([(k : Int), z] ++ way).length ≤ 2 * (n + 1) + 1 := fun z => by rw [List.length_append]; show 2 + _ ≤ _; omega
  have lno := ok.ln
  have lay4 : ∀ ds : List PyData, (∀ d ∈ ds, d.canLay0 = true) → (PyData.tuple ds).canLay0 = true := fun ds h => by
    simp only [PyData.canLay0]
    exact lay_all h
  have wd : ∀ z : Str, okB (.str z) = true → siz (.str z) ≤ 90 → Okd (2 * n + 2) 90 (.str z) := fun z a b => ⟨a, Nat.zero_le _, b⟩
  refine ⟨⟨hits_in (z := 0) (t := tNil2) hh ⟨own, [], .inr ⟨.none, rfl⟩⟩ (fun wf w h0 _ => ⟨[(w, .whl tNil2 .none own)], ?_⟩) rfl, own_wrap hk (fun fns => ?_) ?_ ?_, ways 0 (by decide) (by decide), lws 0, by omega⟩,
    ⟨hits_in (z := 0) (t := tIs) hh ⟨own, [], .inl rfl⟩ (fun wf w h0 _ => ⟨[], ?_⟩) rfl, own_wrap hk (fun fns => ?_) ?_ ?_, ways 0 (by decide) (by decide), lws 0, by omega⟩,
    ⟨hits_in (z := 1) (t := tIsnt) hh ⟨[.op (.free "nil")], own, .inl rfl⟩ (fun wf w h0 _ => ⟨[], ?_⟩) rfl, own_wrap hk (fun fns => ?_) ?_ ?_, ways 1 (by decide) (by decide), lws 1, by omega⟩⟩
  · unfold inF holdsT tNil2
    simp
  · rw [okS]
    exact ⟨Nat.succ_pos n, o1, ok.ok fns, by omega⟩
  · rw [ssD]
    exact Okd.mono (okd_tupL (k := 2 * n + 2) (ns := [90, 279, 5, sizB n]) (.cons (wd _ (by decide +kernel) (by decide +kernel)) (.cons (z1.mono (by omega) (by decide)) (.cons ⟨rfl, Nat.zero_le _, Nat.le_refl _⟩ (.cons ok.sz .nil)))) (sizB n + 400) (by simp only [List.map_cons, List.map_nil, List.sum_cons, List.sum_nil]; omega)) (by omega) (by omega)
  · rw [ssD]
    refine lay4 _ fun d m => ?_
    simp only [List.mem_cons, List.not_mem_nil, or_false] at m
    rcases m with rfl | rfl | rfl | rfl
    · decide +kernel
    · exact l1
    · rfl
    · exact ok.ly
  · unfold inF holdsT tIs
    simp
  · rw [okS]
    exact ⟨Nat.succ_pos n, o2, ok.ok fns, by rw [okL]; trivial, by omega, Nat.zero_le _⟩
  · rw [ssD]
    exact Okd.mono (okd_tupL (k := 2 * n + 2) (ns := [90, 279, sizB n, 3]) (.cons (wd _ (by decide +kernel) (by decide +kernel)) (.cons (z2.mono (by omega) (by decide)) (.cons ok.sz (.cons ⟨by decide +kernel, by (have : (PyData.tuple (slD [])).depth ≤ 1 := by decide +kernel); omega, by decide +kernel⟩ .nil)))) (sizB n + 400) (by simp only [List.map_cons, List.map_nil, List.sum_cons, List.sum_nil]; omega)) (by omega) (by omega)
  · rw [ssD]
    refine lay4 _ fun d m => ?_
    simp only [List.mem_cons, List.not_mem_nil, or_false] at m
    rcases m with rfl | rfl | rfl | rfl
    · decide +kernel
    · exact l2
    · exact ok.ly
    · decide +kernel
  · unfold inF holdsT tIsnt
    simp
  · rw [okS]
    refine ⟨Nat.succ_pos n, o3, ?_, ok.ok fns, by decide, by omega⟩
    rw [okL, okL, okS]
    exact ⟨okO_bad (by simp [okOps, wrongs]), trivial⟩
  · rw [ssD]
    exact Okd.mono (okd_tupL (k := 2 * n + 2) (ns := [90, 279, 300, sizB n]) (.cons (wd _ (by decide +kernel) (by decide +kernel)) (.cons (z3.mono (by omega) (by decide)) (.cons (Okd.mono (k := 2) (n := 300) ⟨by decide +kernel, by decide +kernel, by decide +kernel⟩ (by omega) (by decide)) (.cons ok.sz .nil)))) (sizB n + 700) (by simp only [List.map_cons, List.map_nil, List.sum_cons, List.sum_nil]; omega)) (by omega) (by omega)
  · rw [ssD]
    refine lay4 _ fun d m => ?_
    simp only [List.mem_cons, List.not_mem_nil, or_false] at m
    rcases m with rfl | rfl | rfl | rfl
    · decide +kernel
    · exact l3
    · decide +kernel
    · exact ok.ly
theorem wrong_around {own : List Ss} {due : Cells} (h : WrongOk own due) : AroundOk 0 own [((own.length - 1 : Nat) : Int)] (own.length - 1) due := by
  obtain ⟨z, e, hz, hh, ok, _⟩ := h
  rw [e, Nat.add_sub_cancel]
  exact ⟨hh, ok, fun x m => by rw [List.mem_singleton.mp m]; omega, Nat.le_refl _, by omega⟩
end L2.Hx

/-! The law's own functions that go wrong. -/
namespace L2.Hx
open PySem PySem.Spec PyProof.Rows
section
variable {P : Program} {w : World} {K : PySem.W.Frag} {mg : Str → Option Value} {base : Heap} {p l : Addr} {σ : St} {G : Hp} {φ ψ : PyData → Prop} {t ta tb te : TE} {tt : TT} {tr : TA} {m : Nat}
theorem tx_tupR {ds : List PyData} (h : TXs K p l σ G tr ds) (hz : Nat.ble ds.length 20 = true := by rfl) : TX K p l σ G (tTup tr) (.tuple ds) := tx_tup h (Nat.le_trans (Nat.le_of_ble_eq_true hz) (by decide))
theorem D_lplain (T : Txt K mg) : Df P w K mg base 1 "_law_plain" ["name", "params", "wheres", "body"] (spPlainF K) := by
  obtain ⟨f, fd, S⟩ := T.d_l_plain
  refine Df.mk' (k := 0) S sc_l_plain (fun vs H Q E h => ?_) (fun cdv A outer s H vs Q E hgd hr h => ?_)
  · obtain ⟨p, l, G, ds, d, _, da, ⟨nm, ps, ws, body, rfl, _⟩, _⟩ := h
    rw [da.length]
    rfl
  · obtain ⟨p, l, G, ds, d, W, da, ⟨nm, ps, ws, body, rfl, rfl⟩, kk⟩ := h
    obtain ⟨v, u, x, y, rfl, d1, d2, d3, d4⟩ := da.four
    refine ⟨_, (pss_one (ps_ret (pe_tup (pa_cons (pv 0) (pa_cons (pv 1) (pa_cons (pe_tup pa_nil) (pa_cons (pv 2) (pa_cons (pe_tup (pa_cons (pe_tup (pa_cons (pe_tup pa_nil) (pa_cons (pe_tup pa_nil) pa_nil))) pa_nil)) (pa_cons (pe_tup (pa_cons (pe_tup (pa_cons (pe_tup pa_nil) (pa_cons (pe_tup pa_nil) pa_nil))) pa_nil)) (pa_cons (pv 3) pa_nil)))))))))), ?_⟩
    refine TD.ret (K := K) (p := p) (l := l) (G := G) (φ := fun x => x = fnD (plainF nm ps ws body)) ?_ W (fun v e G' H' x da f => kk v G' H' x (by subst f; exact da))
    unfold fnD plainF empS
    rw [← slD_map]
    exact tx_tupR (tx_cons (td_is rfl d1) (tx_cons (td_is rfl d2) (tx_cons (tx_tupR tx_nil) (tx_cons (td_is rfl d3) (tx_cons (tx_tupR (tx_cons (tx_tupR (tx_cons (tx_tupR tx_nil) (tx_cons (tx_tupR tx_nil) tx_nil))) tx_nil)) (tx_cons (tx_tupR (tx_cons (tx_tupR (tx_cons (tx_tupR tx_nil) (tx_cons (tx_tupR tx_nil) tx_nil))) tx_nil)) (tx_cons (td_is rfl d4) tx_nil)))))))
/-- one of the statements that go wrong -/
def WgD (d : PyData) : Prop := ∃ o ∈ wrongs, d = opD o
theorem tx_op3 {a b c : Str} : TX K p l σ G (tTup (tCons (tC (.str a)) (tCons (tC (.str b)) (tCons (tC (.str c)) tNil)))) (.tuple [.str a, .str b, .str c]) := tx_tup (tx_cons tx_str (tx_cons tx_str (tx_cons tx_str tx_nil))) (show 3 ≤ sizeLine by decide)
theorem tx_op2 {a b : Str} : TX K p l σ G (tTup (tCons (tC (.str a)) (tCons (tC (.str b)) tNil))) (.tuple [.str a, .str b]) := tx_tup (tx_cons tx_str (tx_cons tx_str tx_nil)) (show 2 ≤ sizeLine by decide)
theorem tx_cell {a b : Int} : TX K p l σ G (tTup (tCons (tC (.int a)) (tCons (tC (.int b)) tNil))) (.tuple [.int a, .int b]) := tx_tup (tx_cons tx_int (tx_cons tx_int tx_nil)) (show 2 ≤ sizeLine by decide)
theorem wg_mem {pre : List Op} {wrong : Op} (m : wrong ∈ wrongs) (h : ∀ o ∈ pre, o ∈ ([.set "b" "nil", .set "b" "q", .new "b" "nil", .new "a" "q", .new "a" "b", .free "b", .get "b" "a"] : List Op)) : ∀ o ∈ pre ++ [wrong], o ∈ okOps := fun o mo => by
  rcases List.mem_append.mp mo with mo | mo
  · have := h o mo
    simp only [List.mem_cons, List.not_mem_nil, or_false] at this
    rcases this with rfl | rfl | rfl | rfl | rfl | rfl | rfl <;> simp [okOps, wrongs]
  · rw [List.mem_singleton.mp mo]
    exact List.mem_append_left _ m
theorem wrong_of {pre : List Op} {wrong : Op} {due : Cells} (m : wrong ∈ wrongs) (h : ∀ o ∈ pre, o ∈ ([.set "b" "nil", .set "b" "q", .new "b" "nil", .new "a" "q", .new "a" "b", .free "b", .get "b" "a"] : List Op)) (hl : pre.length ≤ 4) (hx : ∀ wf : Str → Int, wf "nil" = 0 → wf "q" = 6 → ∃ wf2, exec wf [(5, 0)] pre = some (wf2, due) ∧ getC due (wf2 "b") = none) (hd : DueOk due) : WrongOk (ops (pre ++ [wrong])) due :=
  ⟨pre.length, by unfold ops; rw [List.length_map, List.length_append]; rfl, hl, hits_ops m hx, own_ops (wg_mem m h) (by rw [List.length_append]; show _ + 1 ≤ 5; omega), hd⟩
theorem tx_rows {ds : List PyData} (h : TX K p l σ G ta (.tuple ds)) {os : List Op} (e : ds = os.map opD) : TX K p l σ G ta (.tuple (slD (ops os))) := by
  rw [slD_ops, ← e]
  exact h
theorem D_wrong (T : Txt K mg) : Df P w K mg base 4 "_law_wrong" ["stock", "kind"] (spWrong K) := by
  have D_l_pick := (D_pick (P := P) (w := w) (base := base) T).mono (k := 3) (by decide)
  obtain ⟨f, fd, S⟩ := T.d_l_wrong
  refine Df.mk' (k := 3) S sc_l_wrong (fun vs H Q E h => ?_) (fun cdv A outer s H vs Q E hgd hr h => ?_)
  · obtain ⟨p, l, G, us, ds, rfl, _, da, ⟨kind, rfl, _⟩, _⟩ := h
    rw [List.length_cons, da.length]
    rfl
  · obtain ⟨p, l, G, us, ds, rfl, W, da, ⟨kind, rfl, k0, k4⟩, kk⟩ := h
    obtain ⟨v, rfl, d1⟩ := da.one
    cases d1
    refine ⟨_, (pss_cons (ps_set (i := 2) sc_l_wrong.nd rfl (.inl rfl) (pe_lst (pa_cons (pe_tup (pa_cons pe_str (pa_cons pe_str (pa_cons pe_str pa_nil)))) (pa_cons (pe_tup (pa_cons pe_str (pa_cons pe_str (pa_cons pe_str pa_nil)))) (pa_cons (pe_tup (pa_cons pe_str (pa_cons pe_str pa_nil))) (pa_cons (pe_tup (pa_cons pe_str (pa_cons pe_str (pa_cons pe_str pa_nil)))) (pa_cons (pe_tup (pa_cons pe_str (pa_cons pe_str (pa_cons pe_str pa_nil)))) pa_nil)))))))
      (pss_cons (ps_set (i := 2) sc_l_wrong.nd rfl (.inl rfl) (pe_d D_l_pick hgd hr (pa_cons (pv 0) (pa_cons (pv 2) pa_nil))))
      (pss_cons (ps_if (pt_cmpR op_eq (pv 1) pe_int (nomark _)) (pss_one (ps_ret (pe_tup (pa_cons (pe_tup (pa_cons (pe_tup (pa_cons pe_str (pa_cons pe_str (pa_cons pe_str pa_nil)))) (pa_cons (pv 2) pa_nil))) (pa_cons (pe_tup (pa_cons (pe_tup (pa_cons pe_int (pa_cons pe_int pa_nil))) pa_nil)) pa_nil))))) pss_nil)
      (pss_cons (ps_if (pt_cmpR op_eq (pv 1) pe_int (nomark _)) (pss_one (ps_ret (pe_tup (pa_cons (pe_tup (pa_cons (pe_tup (pa_cons pe_str (pa_cons pe_str (pa_cons pe_str pa_nil)))) (pa_cons (pv 2) pa_nil))) (pa_cons (pe_tup (pa_cons (pe_tup (pa_cons pe_int (pa_cons pe_int pa_nil))) pa_nil)) pa_nil))))) pss_nil)
      (pss_cons (ps_if (pt_cmpR op_eq (pv 1) pe_int (nomark _)) (pss_one (ps_ret (pe_tup (pa_cons (pe_tup (pa_cons (pe_tup (pa_cons pe_str (pa_cons pe_str (pa_cons pe_str pa_nil)))) (pa_cons (pe_tup (pa_cons pe_str (pa_cons pe_str pa_nil))) (pa_cons (pv 2) pa_nil)))) (pa_cons (pe_tup (pa_cons (pe_tup (pa_cons pe_int (pa_cons pe_int pa_nil))) pa_nil)) pa_nil))))) pss_nil)
      (pss_cons (ps_if (pt_cmpR op_eq (pv 1) pe_int (nomark _)) (pss_one (ps_ret (pe_tup (pa_cons (pe_tup (pa_cons (pe_tup (pa_cons pe_str (pa_cons pe_str (pa_cons pe_str pa_nil)))) (pa_cons (pe_tup (pa_cons pe_str (pa_cons pe_str (pa_cons pe_str pa_nil)))) (pa_cons (pv 2) pa_nil)))) (pa_cons (pe_tup (pa_cons (pe_tup (pa_cons pe_int (pa_cons pe_int pa_nil))) (pa_cons (pe_tup (pa_cons pe_int (pa_cons pe_int pa_nil))) pa_nil))) pa_nil))))) pss_nil)
      (pss_cons (ps_set (i := 3) sc_l_wrong.nd rfl (.inl rfl) (pe_tup (pa_cons (pe_tup (pa_cons pe_str (pa_cons pe_str (pa_cons pe_str pa_nil)))) (pa_cons (pe_tup (pa_cons pe_str (pa_cons pe_str (pa_cons pe_str pa_nil)))) (pa_cons (pe_tup (pa_cons pe_str (pa_cons pe_str pa_nil))) (pa_cons (pe_tup (pa_cons pe_str (pa_cons pe_str (pa_cons pe_str pa_nil)))) (pa_cons (pv 2) pa_nil)))))))
      (pss_one (ps_ret (pe_tup (pa_cons (pv 3) (pa_cons (pe_tup (pa_cons (pe_tup (pa_cons pe_int (pa_cons pe_int pa_nil))) (pa_cons (pe_tup (pa_cons pe_int (pa_cons pe_int pa_nil))) pa_nil))) pa_nil)))))))))))), ?_⟩
    refine TD.asg (K := K) (p := p) (l := l) (G := G) (φ := LsQ WgD 5 5) (td_lstQ (tds_consF (tx_td tx_op3 ⟨.get "a" "b", by simp [wrongs], rfl⟩) (tds_consF (tx_td tx_op3 ⟨.put "b" "a", by simp [wrongs], rfl⟩) (tds_consF (tx_td tx_op2 ⟨.free "b", by simp [wrongs], rfl⟩) (tds_consF (tx_td tx_op3 ⟨.put "b" "nil", by simp [wrongs], rfl⟩) (tds_consF (tx_td tx_op3 ⟨.get "b" "b", by simp [wrongs], rfl⟩) tds_nilF)))))) W fun lv dl G1 H1 e1 dlv hl => ?_
    dsimp only [gName, List.set]
    refine TD.asg (K := K) (p := p) (l := l) (G := G1) (φ := WgD) (td_pickQ (lo := 5) (m := 5) (td_var rfl dlv hl) rfl) e1.w fun wv dw G2 H2 e2 dwv ⟨wrong, mw, ed⟩ => ?_
    subst ed
    dsimp only [gName, List.set]
    have E2 := e1.trans W e2
    have ret : ∀ {σ' : St} {G' H' : Hp} {te : TE} {D : Ends} (own : List Ss) (due : Cells), TX K p l σ' G' te (.tuple [.tuple (slD own), cellsD due]) → Ext p l G H G' H' → D.rt = Q → WrongOk own due → tRet te D σ' H' := fun own due h E er hw =>
      TD.ret (K := K) (p := p) (l := l) (φ := fun d => d = .tuple [.tuple (slD own), cellsD due]) h E.w (fun v d G6 H6 x da f => by rw [er]; exact kk v d G6 H6 (E.trans W x) da ⟨own, due, f, hw⟩)
    have tst : ∀ {c : Int} {σ' : St}, σ'[1]? = some (some (.int kind)) → TTx K p l σ' G2 (tTest (tOp rEq (tVar 1) (tC (.int c)))) (decide (kind = c)) := fun h => ttx_eqI (td_is h (.int _)) tx_int
    refine tst rfl G2 H2 _ E2.w (Same.refl _) fun G3 H3 e3 => iteD (fun h0 => ?_) (fun h0 => ?_)
    · exact ret (ops [.set "b" "nil", wrong]) [(5, 0)] (tx_tupR (tx_cons (tx_rows (os := [.set "b" "nil", wrong]) (tx_tupR (tx_cons tx_op3 (tx_cons (td_is rfl (dwv.mono e3.sub)) tx_nil))) rfl) (tx_cons (tx_tupR (tx_cons tx_cell tx_nil)) tx_nil))) (E2.trans W e3) rfl (wrong_of (pre := [.set "b" "nil"]) mw (by simp) (by decide) (fun wf a b => ex0 wf a) (.inl rfl))
    dsimp only [tNext]
    have E3 := E2.trans W e3
    have d3 := dwv.mono e3.sub
    clear e3 h0
    have tst : ∀ {c : Int} {σ' : St}, σ'[1]? = some (some (.int kind)) → TTx K p l σ' G3 (tTest (tOp rEq (tVar 1) (tC (.int c)))) (decide (kind = c)) := fun h => ttx_eqI (td_is h (.int _)) tx_int
    refine tst rfl G3 H3 _ E3.w (Same.refl _) fun G4 H4 e4 => iteD (fun h0 => ?_) (fun h0 => ?_)
    · exact ret (ops [.set "b" "q", wrong]) [(5, 0)] (tx_tupR (tx_cons (tx_rows (os := [.set "b" "q", wrong]) (tx_tupR (tx_cons tx_op3 (tx_cons (td_is rfl (d3.mono e4.sub)) tx_nil))) rfl) (tx_cons (tx_tupR (tx_cons tx_cell tx_nil)) tx_nil))) (E3.trans W e4) rfl (wrong_of (pre := [.set "b" "q"]) mw (by simp) (by decide) (fun wf a b => ex1 wf b) (.inl rfl))
    dsimp only [tNext]
    have E4 := E3.trans W e4
    have d4 := d3.mono e4.sub
    have tst : ∀ {c : Int} {σ' : St}, σ'[1]? = some (some (.int kind)) → TTx K p l σ' G4 (tTest (tOp rEq (tVar 1) (tC (.int c)))) (decide (kind = c)) := fun h => ttx_eqI (td_is h (.int _)) tx_int
    refine tst rfl G4 H4 _ E4.w (Same.refl _) fun G5 H5 e5 => iteD (fun h0 => ?_) (fun h0 => ?_)
    · exact ret (ops [.new "b" "nil", .free "b", wrong]) [(5, 0)] (tx_tupR (tx_cons (tx_rows (os := [.new "b" "nil", .free "b", wrong]) (tx_tupR (tx_cons tx_op3 (tx_cons tx_op2 (tx_cons (td_is rfl (d4.mono e5.sub)) tx_nil)))) rfl) (tx_cons (tx_tupR (tx_cons tx_cell tx_nil)) tx_nil))) (E4.trans W e5) rfl (wrong_of (pre := [.new "b" "nil", .free "b"]) mw (by simp) (by decide) (fun wf a b => ex2 wf) (.inl rfl))
    dsimp only [tNext]
    have E5 := E4.trans W e5
    have d5 := d4.mono e5.sub
    have tst : ∀ {c : Int} {σ' : St}, σ'[1]? = some (some (.int kind)) → TTx K p l σ' G5 (tTest (tOp rEq (tVar 1) (tC (.int c)))) (decide (kind = c)) := fun h => ttx_eqI (td_is h (.int _)) tx_int
    refine tst rfl G5 H5 _ E5.w (Same.refl _) fun G6 H6 e6 => iteD (fun h0 => ?_) (fun h0 => ?_)
    · exact ret (ops [.new "a" "q", .get "b" "a", wrong]) [(1, 6), (5, 0)] (tx_tupR (tx_cons (tx_rows (os := [.new "a" "q", .get "b" "a", wrong]) (tx_tupR (tx_cons tx_op3 (tx_cons tx_op3 (tx_cons (td_is rfl (d5.mono e6.sub)) tx_nil)))) rfl) (tx_cons (tx_tupR (tx_cons tx_cell (tx_cons tx_cell tx_nil))) tx_nil))) (E5.trans W e6) rfl (wrong_of (pre := [.new "a" "q", .get "b" "a"]) mw (by simp) (by decide) (fun wf a b => ex3 wf b) (.inr (.inl rfl)))
    dsimp only [tNext]
    have E6 := E5.trans W e6
    have d6 := d5.mono e6.sub
    refine TD.asg (K := K) (p := p) (l := l) (G := G6) (φ := fun d => d = .tuple (slD (ops [.new "b" "nil", .new "a" "b", .free "b", .get "b" "a", wrong]))) (tx_rows (os := [.new "b" "nil", .new "a" "b", .free "b", .get "b" "a", wrong]) (tx_tupR (tx_cons tx_op3 (tx_cons tx_op3 (tx_cons tx_op2 (tx_cons tx_op3 (tx_cons (td_is rfl d6) tx_nil)))))) rfl) E6.w fun rv dr G7 H7 e7 drv er => ?_
    subst er
    exact ret (ops [.new "b" "nil", .new "a" "b", .free "b", .get "b" "a", wrong]) [(2, 1), (5, 0)] (tx_tupR (tx_cons (td_is rfl drv) (tx_cons (tx_tupR (tx_cons tx_cell (tx_cons tx_cell tx_nil))) tx_nil))) (E6.trans W e7) rfl (wrong_of (pre := [.new "b" "nil", .new "a" "b", .free "b", .get "b" "a"]) mw (by simp) (by decide) (fun wf a b => ex4 wf a) (.inr (.inr rfl)))
end
end L2.Hx

/-! Statements around what goes wrong. -/
namespace L2.Hx
open PySem PySem.Spec PyProof.Rows
section
variable {P : Program} {w : World} {K : PySem.W.Frag} {mg : Str → Option Value} {base : Heap} {p l : Addr} {σ : St} {G : Hp} {φ ψ : PyData → Prop} {t ta tb te : TE} {tt : TT} {tr : TA} {m : Nat}
theorem seq_of {a b : TS} {D : Ends} {H : Hp} (h : a { D with nx := b D } σ H) : tSeq a b D σ H := h
theorem seq_par3 {i j q : Nat} {ta : TA} {b : TS} {D : Ends} {H : Hp} (h : ta σ H fun vs H1 => ∃ u v w, vs = [u, v, w] ∧ b D (((σ.set i (some u)).set j (some v)).set q (some w)) H1) : tSeq (tPar3 i j q ta) b D σ H := h
theorem par_2 {i j : Nat} {ta : TA} {D : Ends} {H : Hp} (h : ta σ H fun vs H1 => ∃ v w, vs = [v, w] ∧ D.nx ((σ.set i (some v)).set j (some w)) H1) : tPar i j ta D σ H := h
theorem tcons_app {H : Hp} {Q : List V → Hp → Prop} (h : TD K p l σ G t φ) (W : Wd p l G H) (k : ∀ v d G2 H2, Ext p l G H G2 H2 → Da K G2 v d → φ d → tr σ H2 fun xs H3 => Q (v :: xs) H3) : tCons t tr σ H Q := h G H _ W (Same.refl _) k
theorem tx_subI {i c : Int} (ha : TX K p l σ G ta (.int i)) : TX K p l σ G (tOp (rI0 fun i j => .int (i - j)) ta (tC (.int c))) (.int (i - c)) := fun G1 H Q W s k =>
  ha G1 H _ W s fun v d G2 H2 e da f => by
    subst f
    cases da
    exact ⟨_, _, rfl, rfl, k _ _ _ _ e (.int _) rfl⟩
theorem tx_to {d e : PyData} (h : TX K p l σ G ta d) (q : d = e) : TX K p l σ G ta e := by rw [← q]; exact h
theorem tx_int1 {i c : Int} (ha : TX K p l σ G ta (.int i)) : TX K p l σ G (tCB (fun xs H Q => (∃ i, xs = [.int i] ∧ Q (.int i) H) ∨ ∃ k, xs = [.bl k] ∧ Q (.int (if k then 1 else 0)) H) (tCons (tOp rEq ta (tC (.int c))) tNil)) (.int (if i = c then 1 else 0)) := fun G1 H Q W s k =>
  (tx_eqI ha (tx_int (i := c))) G1 H _ W s fun v d G2 H2 e da f => by
    subst f
    cases da
    refine .inr ⟨_, rfl, ?_⟩
    rw [show (if decide (i = c) = true then (1 : Int) else 0) = if i = c then 1 else 0 by simp]
    exact k _ _ _ _ e (.int _) rfl
theorem td_repZ {i : Nat} {c : Int} {d0 : PyData} (ha : TX K p l σ G ta (.tuple [d0])) (hd : σ[i]? = some (some (.ref p))) (h0 : 1 ≤ c) (h1 : c ≤ 100) : TD K p l σ G (tOp (rRepZ K) ta (tCall spDraw [] E0 (tCons (tVar i) (tCons (tC (.int c)) tNil)))) (fun d => ∃ k : Nat, (k : Int) < c ∧ d = .tuple (List.replicate k d0)) := fun G1 H Q W s k =>
  ha G1 H _ W s fun v d G2 H2 e da f => by
    subst f
    obtain ⟨a, xs, rfl, sq, dx⟩ := da.tupI
    cases dx with | @cons x _ _ _ d1 t1 =>
    cases t1
    refine ⟨_, hd, p, l, G2, c, rfl, h0, by omega, e.w, fun r H3 r0 r1 e3 => ?_⟩
    have E3 := e.trans W e3
    have sq3 := sameT e3.w.same sq
    refine ⟨a, r, [x], rfl, rfl, sq3, by simp, r0, by omega, (show 1 ≤ 1000 by decide), fun e1 => ?_, fun n1 q hq => ?_⟩
    · subst e1
      exact k _ _ _ _ E3 (da.mono e3.sub) ⟨1, r1, rfl⟩
    · have e4 := e3.w.put (o := .tup (List.replicate r.toNat [x]).flatten) hq
      have fl : (List.replicate r.toNat [x]).flatten = List.replicate r.toNat x := by
        generalize r.toNat = n
        induction n with
        | zero => rfl
        | succ n ih => rw [List.replicate_succ, List.flatten_cons, ih]; rfl
      rw [fl] at e4 ⊢
      refine k _ _ _ _ (E3.trans W e4) (.tup (SqT.of upd_same) ?_) ⟨r.toNat, by omega, rfl⟩
      have d4 := (d1.mono e3.sub).mono e4.sub
      generalize upd G2 q (.tup (List.replicate r.toNat x)) = G5 at d4 ⊢
      generalize r.toNat = n
      induction n with
      | zero => exact .nil
      | succ n ih => exact .cons d4 ih
theorem D_around (T : Txt K mg) : Df P w K mg base 4 "_law_around" ["stock", "rows"] (spAround K) := by
  have D_l_draw := (D_draw (P := P) (w := w) (base := base) T).mono (k := 3) (by decide)
  obtain ⟨f, fd, S⟩ := T.d_l_around
  refine Df.mk' (k := 3) S sc_l_around (fun vs H Q E h => ?_) (fun cdv A outer s H vs Q E hgd hr h => ?_)
  · obtain ⟨p, l, G, us, ds, x0, rfl, _, da, ⟨rfl, _⟩, _⟩ := h
    rw [List.length_cons, da.length]
    rfl
  · obtain ⟨p, l, G, us, ds, ⟨own0, due⟩, rfl, W, da, ⟨rfl, hw⟩, kk⟩ := h
    obtain ⟨v, rfl, d1⟩ := da.one
    have d1 : Da K G v (.tuple (slD own0)) := d1
    have hw : WrongOk own0 due := hw
    have ar0 := wrong_around hw
    have big : (1000 : Nat) ≤ sizeLine := by decide
    refine ⟨_, (pss_cons (ps_par3 (i := 2) (j := 3) (l := 4) (by rfl) sc_l_around.nd rfl rfl rfl (by decide) (by decide) (by decide) rfl rfl rfl (pa_cons (pe_tup (pa_cons (pe_op op_sub (pe_callB call_len_seq (by rfl) T.b_len (by decide +kernel) (pa_cons (pv 1) pa_nil)) pe_int) pa_nil)) (pa_cons (pe_op op_sub (pe_callB call_len_seq (by rfl) T.b_len (by decide +kernel) (pa_cons (pv 1) pa_nil)) pe_int) (pa_cons (pv 1) pa_nil))) (by rfl))
      (pss_cons (ps_for PassesOwn.never rfl (pi_range1 rfl T.b_range (pa_cons (pe_d D_l_draw hgd hr (pa_cons (pv 0) (pa_cons pe_int pa_nil))) pa_nil)) (pg_name (i := 5) sc_l_around.nd rfl (.inl rfl))
      (pss_cons (ps_set (i := 6) sc_l_around.nd rfl (.inl rfl) (pe_d D_l_draw hgd hr (pa_cons (pv 0) (pa_cons pe_int pa_nil))))
      (pss_cons (ps_set (i := 7) sc_l_around.nd rfl (.inl rfl) (pe_op op_repZ (pe_tup (pa_cons (pe_tup (pa_cons pe_str (pa_cons pe_str (pa_cons pe_str pa_nil)))) pa_nil)) (pe_d D_l_draw hgd hr (pa_cons (pv 0) (pa_cons pe_int pa_nil)))))
      (pss_cons (ps_if (pt_cmpR op_eq (pv 6) pe_int (nomark _)) (pss_one (ps_set (i := 4) sc_l_around.nd rfl (.inl rfl) (pe_op op_catA (pv 7) (pe_tup (pa_cons (pe_tup (pa_cons pe_str (pa_cons (pe_tup (pa_cons pe_str (pa_cons pe_str (pa_cons pe_str pa_nil)))) (pa_cons pe_non (pa_cons (pv 4) pa_nil))))) pa_nil))))) (pss_cons (ps_asg (pe_ifExp (pt_cmpR op_eq (pv 6) pe_int (nomark _)) (pe_tup (pa_cons (pv 4) (pa_cons (pe_tup pa_nil) pa_nil))) (pe_tup (pa_cons (pe_tup (pa_cons (pe_tup (pa_cons pe_str (pa_cons pe_str pa_nil))) pa_nil)) (pa_cons (pv 4) pa_nil)))) (pg_tup rfl (pgs_cons (pg_name (i := 8) sc_l_around.nd rfl (.inl rfl)) (pgs_cons (pg_name (i := 9) sc_l_around.nd rfl (.inl rfl)) pgs_nil))))
      (pss_one (ps_set (i := 4) sc_l_around.nd rfl (.inl rfl) (pe_op op_catA (pv 7) (pe_tup (pa_cons (pe_tup (pa_cons pe_str (pa_cons (pe_tup (pa_cons (pe_ifExp (pt_cmpR op_eq (pv 6) pe_int (nomark _)) pe_str pe_str) (pa_cons pe_str (pa_cons pe_str pa_nil)))) (pa_cons (pv 8) (pa_cons (pv 9) pa_nil))))) pa_nil)))))))
      (pss_one (ps_par (i := 2) (j := 3) (by rfl) sc_l_around.nd rfl rfl (by decide) rfl rfl (pa_cons (pe_op op_catA (pe_tup (pa_cons (pe_callB call_len_seq (by rfl) T.b_len (by decide +kernel) (pa_cons (pv 7) pa_nil)) (pa_cons (pe_callTy call_int1 (by rfl) T.b_int (by decide +kernel) (pa_cons (pe_cmpR op_eq (pv 6) pe_int (nomark _)) pa_nil)) pa_nil))) (pv 2)) (pa_cons (pe_op op_add (pe_op op_add (pv 3) (pe_callB call_len_seq (by rfl) T.b_len (by decide +kernel) (pa_cons (pv 7) pa_nil))) pe_int) pa_nil)) (by rfl)))))))
      (pss_one (ps_ret (pe_tup (pa_cons (pv 4) (pa_cons (pv 2) (pa_cons (pv 3) pa_nil)))))))), ?_⟩
    obtain ⟨z, ez, hz, _⟩ := hw
    have lo : (slD own0).length = z + 1 := by rw [slD_map, List.length_map]; exact ez
    rw [ez, Nat.add_sub_cancel] at ar0
    refine seq_par3 ?_
    refine tcons_app (G := G) (φ := fun x => x = wayD [(z : Int)]) (tx_tup (tx_cons (tx_to (tx_subI (tx_lenT (td_is rfl d1))) (by rw [lo]; congr 1; omega)) tx_nil) (show 1 ≤ sizeLine by decide)) W fun wv d G1 H1 e1 dwv ed => ?_
    subst ed
    refine tcons_app (G := G1) (φ := fun x => x = .int (z : Int)) (tx_to (tx_subI (tx_lenT (td_is rfl (d1.mono e1.sub)))) (by rw [lo]; congr 1; omega)) e1.w fun sv d G2 H2 e2 dsv ed => ?_
    subst ed
    cases dsv
    refine ⟨_, rfl, _, _, _, rfl, ?_⟩
    dsimp only [gName, List.set]
    have E2 := e1.trans W e2
    have dwv := dwv.mono e2.sub
    have d2 := d1.mono E2.sub
    have tw : TW p l [some (.ref p), some v, some wv, some (.int (z : Int)), some v, none, none, none, none, none] G2 (iRng1 (tCons (tCall spDraw [] E0 (tCons (tVar 0) (tCons (tC (.int 5)) tNil))) tNil)) (fun N => (N : Int) < 5) := tw_draw rfl
    refine seq_of (tw G2 H2 _ E2.w (Same.refl _) fun N G3 H3 hN e3 => ?_)
    refine for_range (lo := 0) (n := N) (fun j σ Hx => ∃ (o5 o6 o7 o8 o9 : Option V) (wv ov : V) (own : List Ss) (way : List Int) (steps : Nat) (Gx : Hp), σ = [some (.ref p), some v, some wv, some (.int (steps : Int)), some ov, o5, o6, o7, o8, o9] ∧ Ext p l G H Gx Hx ∧ Da K Gx wv (wayD way) ∧ Da K Gx ov (.tuple (slD own)) ∧ AroundOk j own way steps due)
      ⟨_, _, _, _, _, wv, v, own0, [(z : Int)], z, G3, rfl, E2.trans W e3, dwv.mono e3.sub, d2.mono e3.sub, ar0⟩ ?_ ?_
    rotate_left 1
    · rintro σ Hx ⟨o5, o6, o7, o8, o9, wv, ov, own, way, steps, Gx, rfl, ex, dw, dov, ar⟩
      refine TD.ret (K := K) (p := p) (l := l) (G := Gx) (φ := fun d => d = .tuple [.tuple (slD own), wayD way, .int (steps : Int)]) (tx_tupR (tx_cons (td_is rfl dov) (tx_cons (td_is rfl dw) (tx_cons (td_is rfl (.int _)) tx_nil)))) ex.w (fun v d G6 H6 x da f => kk v d G6 H6 (ex.trans W x) da ⟨own, way, steps, N, f, by omega, ar⟩)
    rintro j σ Hx hj ⟨o5, o6, o7, o8, o9, wv, ov, own, way, steps, Gx, rfl, ex, dw, dov, ar⟩
    dsimp only [gName, List.set]
    refine ⟨_, rfl, p, l, Gx, 3, rfl, by decide, by decide, ex.w, fun side H4 s0 s1 e4 => ?_⟩
    dsimp only [gName, List.set]
    refine TD.asg (K := K) (p := p) (l := l) (G := Gx) (φ := fun d => ∃ k : Nat, (k : Int) < 3 ∧ d = .tuple (List.replicate k (opD (.set "result" "nil")))) (td_repZ (tx_tupR (tx_cons tx_op3 tx_nil)) rfl (by decide) (by decide)) e4.w fun bv d G5 H5 e5 dbv ⟨k, k3, ed⟩ => ?_
    subst ed
    dsimp only [gName, List.set]
    have E5 := ex.trans W (e4.trans ex.w e5)
    have rep : List.replicate k (opD (.set "result" "nil")) = slD (ops (resets k)) := by
      rw [slD_ops, resets, List.map_replicate]
    have lrep : (slD (ops (resets k))).length = k := by rw [← rep, List.length_replicate]
    rw [rep] at dbv
    have dov5 := dov.mono e5.sub
    have dw5 := dw.mono e5.sub
    have hk : k ≤ 2 := by omega
    obtain ⟨a1, a2, a3⟩ := around_step hk ar
    have lown := ar.2.1.ln
    refine seq_by (fun σ2 Hx => ∃ (o8 o9 : Option V) (own2 : List Ss) (nv : V) (G6 : Hp), σ2 = [some (.ref p), some v, some wv, some (.int (steps : Int)), some nv, some (.int (0 + (j : Int))), some (.int side), some bv, o8, o9] ∧ Ext p l G5 H5 G6 Hx ∧ Da K G6 nv (.tuple (slD own2)) ∧ AroundOk (j + 1) own2 ([(k : Int), (if side = 2 then 1 else 0)] ++ way) (steps + k + 1) due) (fun nx => ?_) ?_
    rotate_left 1
    · rintro σ2 H6 ⟨o8, o9, own2, nv, G6, rfl, e6, dnv, ar2⟩
      refine par_2 ?_
      refine tcons_app (G := G6) (φ := fun x => x = wayD ([(k : Int), (if side = 2 then 1 else 0)] ++ way)) (tx_to (tx_catA (tx_tupR (tx_cons (tx_to (tx_lenT (td_is rfl (dbv.mono e6.sub))) (by rw [lrep])) (tx_cons (tx_int1 (td_is rfl (.int _))) tx_nil))) (show TX K p l _ G6 (tVar 2) (.tuple (way.map .int)) from td_is rfl (dw5.mono e6.sub)) (by have := ar.2.2.2.1; rw [List.length_map]; show 2 + _ ≤ _; omega)) (by unfold wayD; rw [List.map_append]; rfl)) e6.w fun wv2 d G7 H7 e7 dw2 ed => ?_
      subst ed
      refine tcons_app (G := G7) (φ := fun x => x = .int ((steps + k + 1 : Nat) : Int)) (tx_to (tx_add (tx_add (td_is rfl (.int _)) (tx_lenT (td_is rfl ((dbv.mono e6.sub).mono e7.sub)))) tx_int) (by rw [lrep]; congr 1)) e7.w fun sv2 d G8 H8 e8 ds2 ed => ?_
      subst ed
      cases ds2
      refine ⟨_, _, rfl, ?_⟩
      dsimp only [gName, List.set]
      exact ⟨_, _, _, _, _, wv2, nv, own2, _, _, G8, rfl, E5.trans W ((e6.trans e5.w e7).trans e5.w e8), dw2.mono e8.sub, (dnv.mono e7.sub).mono e8.sub, ar2⟩
    have W5 := e5.w
    obtain rfl | rfl | rfl : side = 0 ∨ side = 1 ∨ side = 2 := by omega
    · refine ttx_yes (K := K) (ttx_eqI (td_is rfl (.int _)) tx_int) rfl W5 fun G6 H6 e6 => ?_
      refine TD.asg (K := K) (p := p) (l := l) (G := G6) (φ := fun d => d = .tuple (slD (ops (resets k) ++ [.whl tNil2 .none own]))) (tx_to (tx_catA (td_is rfl (dbv.mono e6.sub)) (tx_tupR (tx_cons (tx_tupR (tx_cons tx_str (tx_cons tx_op3 (tx_cons tx_non (tx_cons (td_is rfl (dov5.mono e6.sub)) tx_nil))))) tx_nil)) (by rw [lrep]; show k + 1 ≤ _; omega)) (by rw [slD_map (_ ++ _), List.map_append, ← slD_map]; rfl)) e6.w fun nv d G7 H7 e7 dnv ed => ?_
      subst ed
      exact nx _ _ ⟨_, _, _, nv, G7, rfl, e6.trans W5 e7, dnv, a1⟩
    · refine ttx_no (K := K) (ttx_eqI (td_is rfl (.int _)) tx_int) rfl W5 fun G6 H6 e6 => ?_
      have two : ∀ {σ' : St}, σ'[6]? = some (some (.int 1)) → TTx K p l σ' G6 (tTest (tOp rEq (tVar 6) (tC (.int 1)))) true := fun h => ttx_eqI (td_is h (.int _)) tx_int
      refine seq_of ?_
      refine two rfl G6 H6 _ e6.w (Same.refl _) fun G7 H7 e7 => if_yes rfl ?_
      have E7 := e6.trans W5 e7
      have dov7 := dov5.mono E7.sub
      refine TD.app (K := K) (p := p) (l := l) (G := G7) (φ := fun d => d = .tuple [.tuple (slD own), .tuple (slD [])]) (tx_tupR (tx_cons (td_is rfl dov7) (tx_cons (tx_to (tx_tupR tx_nil) rfl) tx_nil))) e7.w fun tv d G8 H8 e8 dtv ed => ?_
      subst ed
      obtain ⟨ta, ts, rfl, sqt, dts⟩ := dtv.tupI
      obtain ⟨t1, t2, rfl, dt1, dt2⟩ := dts.two
      refine ⟨ta, _, rfl, sameT e8.w.same sqt, rfl, _, _, rfl, _, _, rfl, rfl, ?_⟩
      dsimp only [gName, List.set]
      have E8 := E7.trans W5 e8
      have two8 : ∀ {σ' : St}, σ'[6]? = some (some (.int 1)) → TTx K p l σ' G8 (tTest (tOp rEq (tVar 6) (tC (.int 1)))) true := fun h => ttx_eqI (td_is h (.int _)) tx_int
      have word : ∀ {σ' : St}, σ'[6]? = some (some (.int 1)) → TX K p l σ' G8 (tIf (tTest (tOp rEq (tVar 6) (tC (.int 1)))) (tC (.str "is")) (tC (.str "isnt"))) (.str "is") := fun h G1 H Q W s k => two8 h G1 H _ W s fun G9 H9 e9 => if_yes rfl (k _ _ _ _ e9 (.str _) rfl)
      refine TD.asg (K := K) (p := p) (l := l) (G := G8) (φ := fun d => d = .tuple (slD (ops (resets k) ++ [.ite tIs own []]))) (tx_to (tx_catA (td_is rfl (dbv.mono E8.sub)) (tx_tupR (tx_cons (tx_tupR (tx_cons tx_str (tx_cons (tx_tupR (tx_cons (word rfl) (tx_cons tx_str (tx_cons tx_str tx_nil)))) (tx_cons (td_is rfl dt1) (tx_cons (td_is rfl dt2) tx_nil))))) tx_nil)) (by rw [lrep]; show k + 1 ≤ _; omega)) (by rw [slD_map (_ ++ _), List.map_append, ← slD_map]; rfl)) e8.w fun nv d G9 H9 e9 dnv ed => ?_
      subst ed
      exact nx _ _ ⟨_, _, _, nv, G9, rfl, E8.trans W5 e9, dnv, a2⟩
    · refine ttx_no (K := K) (ttx_eqI (td_is rfl (.int _)) tx_int) rfl W5 fun G6 H6 e6 => ?_
      have two : ∀ {σ' : St}, σ'[6]? = some (some (.int 2)) → TTx K p l σ' G6 (tTest (tOp rEq (tVar 6) (tC (.int 1)))) false := fun h => ttx_eqI (td_is h (.int _)) tx_int
      refine seq_of ?_
      refine two rfl G6 H6 _ e6.w (Same.refl _) fun G7 H7 e7 => if_no rfl ?_
      have E7 := e6.trans W5 e7
      have dov7 := dov5.mono E7.sub
      refine TD.app (K := K) (p := p) (l := l) (G := G7) (φ := fun d => d = .tuple [.tuple (slD [.op (.free "nil")]), .tuple (slD own)]) (tx_tupR (tx_cons (tx_to (tx_tupR (tx_cons tx_op2 tx_nil)) rfl) (tx_cons (td_is rfl dov7) tx_nil))) e7.w fun tv d G8 H8 e8 dtv ed => ?_
      subst ed
      obtain ⟨ta, ts, rfl, sqt, dts⟩ := dtv.tupI
      obtain ⟨t1, t2, rfl, dt1, dt2⟩ := dts.two
      refine ⟨ta, _, rfl, sameT e8.w.same sqt, rfl, _, _, rfl, _, _, rfl, rfl, ?_⟩
      dsimp only [gName, List.set]
      have E8 := E7.trans W5 e8
      have two8 : ∀ {σ' : St}, σ'[6]? = some (some (.int 2)) → TTx K p l σ' G8 (tTest (tOp rEq (tVar 6) (tC (.int 1)))) false := fun h => ttx_eqI (td_is h (.int _)) tx_int
      have word : ∀ {σ' : St}, σ'[6]? = some (some (.int 2)) → TX K p l σ' G8 (tIf (tTest (tOp rEq (tVar 6) (tC (.int 1)))) (tC (.str "is")) (tC (.str "isnt"))) (.str "isnt") := fun h G1 H Q W s k => two8 h G1 H _ W s fun G9 H9 e9 => if_no rfl (k _ _ _ _ e9 (.str _) rfl)
      refine TD.asg (K := K) (p := p) (l := l) (G := G8) (φ := fun d => d = .tuple (slD (ops (resets k) ++ [.ite tIsnt [.op (.free "nil")] own]))) (tx_to (tx_catA (td_is rfl (dbv.mono E8.sub)) (tx_tupR (tx_cons (tx_tupR (tx_cons tx_str (tx_cons (tx_tupR (tx_cons (word rfl) (tx_cons tx_str (tx_cons tx_str tx_nil)))) (tx_cons (td_is rfl dt1) (tx_cons (td_is rfl dt2) tx_nil))))) tx_nil)) (by rw [lrep]; show k + 1 ≤ _; omega)) (by rw [slD_map (_ ++ _), List.map_append, ← slD_map]; rfl)) e8.w fun nv d G9 H9 e9 dnv ed => ?_
      subst ed
      exact nx _ _ ⟨_, _, _, nv, G9, rfl, E8.trans W5 e9, dnv, a3⟩
end
end L2.Hx

/-! No such function: run raises, the law catches. -/
namespace L2.Hx
open PySem PySem.Spec PyProof.Rows
theorem pss_if {X : Cx} {p : Prop} {st : List Stmt} {t : TS} (h : p → PSs X st t) : PSs X st (fun D σ H => p ∧ t D σ H) := ⟨fun pins s σ H D I hw => (h hw.1).run pins s σ H D I hw.2⟩
/-- the name is none of the program's -/
def spRefuse (K : PySem.W.Frag) (C : Addr) : Sp := fun vs H _ E => ∃ (p l : Addr) (G : Hp) (pv v2 v3 v4 v5 : V) (nm : Str) (fns : List Fn), vs = [pv, .str nm, v2, v3, v4, v5] ∧ Wd p l G H ∧ Da K G pv (.tuple (fns.map fnD)) ∧ (fns.map (·.name)).Nodup ∧ fns.length ≤ 400 ∧ nm ∉ fns.map (·.name) ∧
  ∀ d G' H', Ext p l G H G' H' → H' d = some (.xd [("name", .str nm)]) → E (.ref C) (some d) H'
section
variable {P : Program} {w : World} {K : PySem.W.Frag} {mg : Str → Option Value} {base : Heap} {C CG CR : Addr} {f : Addr} {fd : FuncData}
theorem F_ini (S : SrcE K C "NoFunction.__init__" s_NoFunction___init__ ["self", "name"] f fd) : L2.FnOk P w K mg base CX0 1 f fd ["self", "name"] (spEIni K C "name") :=
  S.fn.ok (k := 0) sc_NoFunction___init__ (fun vs H Q E h => by
    obtain ⟨a, v, rfl, _⟩ := h
    rfl) (fun cdv A outer s H vs Q E hr h => by
    obtain ⟨a, v, rfl, T, no, ha, kk⟩ := h
    refine ⟨_, pss_one (ps_ost (pv 0) (pv 1)), ?_⟩
    exact ⟨_, rfl, _, rfl, a, C, rfl, T, no, .inl ⟨ha, fun dx hd nd => kk dx hd nd⟩⟩)
/-- the exception is made and raised -/
theorem raise_name {X : Cx} {W : WX} {tn : TE} {e : Expr} {p pos pos2 : Pos} {k : Nat} {fld : Str} {ps : List Str} {x : Str} (hc : X.calm = true) (tk : Takes X W) (T : OwnFld X.K X.mg x fld C) (F : L2.FnOk X.prog X.w X.K X.mg X.base CX0 k f fd ps (spEIni X.K C fld)) (iC : PySem.W.findIn X.K (.ref C) "__init__" = some (some (.ref f))) (tI : PySem.W.typeIn X.K (.ref f) = some (.type "function")) (bd : Binds X.K fd ps [])
    (hr : Room (k + 1) X.A) (he : PE X e tn) (hg : Gl X x := by rfl) (hdb : (x == ("__debug__" : Str)) = false := by decide) (hs : starEach [e] X.env = (false, eval e X.env) :: starEach [] X.env := by rfl) (hpl : (backTo pos (starEach [] X.env)).any (·.1) = false := by rfl) :
    PS X (.Raise (some (.Call (.Name x p) [e] [] pos)) none pos2) (fun _ σ H => tMkO C (spEIni X.K C fld) [] (tCons tn tNil) σ H fun cls d H' => W cls d σ H') :=
  ps_raise hc tk (pmk_oex T.oex iC tI F hr bd .nil (fun _ _ _ _ _ _ _ h => h.elim) hg T.at_ (pa_cons he pa_nil (hs := hs)) hdb hs hpl)
theorem ps_never2 {X : Cx} {st : Stmt} : PS X st (fun _ _ _ => False) := ⟨fun _ _ _ _ _ _ h => h.elim⟩
theorem DX_run (T : Txt K mg) (hN : OwnFld K mg "NoFunction" "name" C) (hS : SrcE K C "NoFunction.__init__" s_NoFunction___init__ ["self", "name"] f fd) : DfX P w K mg base 5 "run" s_run ["program", "name", "args", "heap", "choices", "limit"] (spRefuse K C) := by
  obtain ⟨f1, fdd, Sd⟩ := T.d_run
  refine DfX.mk' (k := 4) Sd sc_run (fun vs H Q E h => ?_) (fun cdv A outer s H vs Q E hgd hr h => ?_)
  · obtain ⟨p, l, G, pv, v2, v3, v4, v5, nm, fns, rfl, _⟩ := h
    rfl
  · obtain ⟨p, l, G, vp, v2, v3, v4, v5, nm, fns, rfl, W, dpv, nodup, lfn, hnot, kk⟩ := h
    have hu := hu_of hr
    have big : (16000000 : Nat) ≤ sizeLine := by decide
    have tkE : Takes (cxOf (L2.CX P w) P w K mg base ["program", "name", "args", "heap", "choices", "limit", "functions", "function"] "run" (defScope s_run) f1 cdv A outer s H E) (fun cls d _ H => E cls d H) := takes_of rfl rfl rfl rfl
    refine ⟨_, (pss_cons (ps_setDc (i := 6) (X := (cxOf (L2.CX P w) P w K mg base ["program", "name", "args", "heap", "choices", "limit", "functions", "function"] "run" (defScope s_run) f1 cdv A outer s H E)) (own := [("function", 7)]) (tk := tOp (rIxT K) (tVar 7) (tC (.int 0))) (tv := tVar 7) (g := gName 7) (tt := tYes) rfl sc_run.nd rfl rfl (sw_trueD rfl rfl rfl (by decide +kernel)) (pi_tup (pv 0)) (blkOk_by (own := [("function", 7)]) (N := ["program", "name", "args", "heap", "choices", "limit", "functions", "function"]) (sc := defScope s_run) (by decide +kernel)) (fun _ _ _ _ _ => pg_name (i := 7) sc_run.nd rfl (.inl rfl)) (fun _ _ _ _ _ => pts_nil) (fun _ _ _ _ _ => (pe_ix ix_tup (pv 7) pe_int (fun _ _ => rfl))) (fun _ _ _ _ _ => (pv 7)))
      (pss_cons (ps_if (pt_cmp (pc_dnotin hu (pv 1) (pv 6))) (pss_one (raise_name rfl tkE hN (F_ini hS) hS.iC hS.tI hS.bd (hr.mono (by decide)) (pv 1))) pss_nil)
      (pss_one ps_never2))), ?_⟩
    obtain ⟨Ap, xs, rfl, sqp, dxs⟩ := dpv.tupI
    have lx := dxs.length
    rw [List.length_map] at lx
    refine ⟨_, rfl, Ap, rfl, ⟨_, sameT W.same sqp⟩, fun D hD => ?_⟩
    have nDp := W.np hD
    have nDl := W.nl hD
    have E1 := W.tmp (o := .dK []) hD
    refine dc_tup (K := K) (a := Ap) (xs := xs) (fun i Hx => ∃ G3 kvs, Wd p l G3 Hx ∧ Same G G3 ∧ G3 D = none ∧ Hx D = some (.dK kvs) ∧ kvs.length ≤ i ∧ (∀ x, x ∉ (fns.take i).map (·.name) → valV kvs (Sum.inr x : Key) = none) ∧ (∀ b o, b ≠ p → b ≠ l → b ≠ D → H b = some o → Hx b = some o) ∧ (∀ b o, H b = some o → G b = none → G3 b = none))
      ⟨G, [], E1.w, Same.refl _, W.same.free hD, upd_same, Nat.le_refl _, fun x _ => rfl, fun b o n1 n2 n3 q => by rw [upd_ne n3]; exact q, fun b o _ g => g⟩ ?_ ?_ ?_
    · rintro i Hx _ ⟨G3, kvs, w3, s3, _⟩
      exact sameT (s3.trans w3.same) sqp
    · rintro i x Hx hx ⟨G3, kvs, w3, s3, gD, hD3, lk, hk, k3, n3⟩
      obtain ⟨d0, hd0, dx⟩ := dxs.get hx
      rw [List.getElem?_map] at hd0
      obtain ⟨fi, hfi, rfl⟩ := Option.map_eq_some_iff.mp hd0
      have lt := (List.getElem?_eq_some_iff.mp hfi).1
      have dx3 := dx.mono s3
      obtain ⟨Af, ys, rfl, sqf, dys⟩ := dx3.tupI
      cases dys with | cons c1 t1 =>
      cases c1
      refine ⟨rfl, ⟨_, rfl, Af, _, _, _, rfl, rfl, sameT w3.same sqf, atI_zero _ _, ?_⟩⟩
      refine ⟨_, rfl, kvs, Sum.inr fi.name, rfl, hD3, by omega, G3, _, w3.own nDp nDl gD, s3, gD, upd_same, by have := length_putK kvs (Sum.inr fi.name : Key) (V.ref Af); omega, fun x hx2 => ?_, fun b o n1 n2 n4 q => ?_, n3⟩
      · rw [List.take_succ, hfi, List.map_append] at hx2
        have n1 : x ∉ (fns.take i).map (·.name) := fun m => hx2 (List.mem_append_left _ m)
        have n2 : fi.name ≠ x := fun e => hx2 (List.mem_append_right _ (by rw [← e]; exact List.mem_singleton.mpr rfl))
        rw [valV_put, if_neg (fun e => n2 (Sum.inr.inj e).symm)]
        exact hk x n1
      · rw [upd_ne n4]
        exact k3 b o n1 n2 n4 q
    rintro Hx ⟨G3, kvs, w3, s3, gD, hD3, lk, hk, k3, n3⟩
    rw [List.take_of_length_le (by omega)] at hk
    dsimp only [gName, List.set]
    obtain ⟨w4, s4⟩ := w3.hold nDp nDl gD hD3
    have ED : Ext p l G H (upd G3 D (.dK kvs)) Hx := ⟨w4, s3.trans s4, fun b o n1 n2 q => k3 b o n1 n2 (ne_of_none q hD) q, fun b o q g => by
      rw [upd_ne (ne_of_none q hD)]
      exact n3 b o q g⟩
    generalize upd G3 D (.dK kvs) = G1 at ED w4
    have dg : DGet Hx D (.str nm) none := by
      have z := DGet.k (k := (Sum.inr nm : Key)) hD3
      rw [hk nm hnot] at z
      exact z
    refine ⟨_, rfl, _, rfl, D, none, rfl, dg, _, rfl, ?_⟩
    refine if_yes rfl ?_
    refine ⟨_, rfl, (show 1 ≤ 1000 by decide), fun e he => ⟨e, .str nm, rfl, hN.oex, hN.no, upd_same, fun d hd nd => ⟨rfl, d, _, upd_same, by rw [upd_ne nd, upd_same], by rw [upd_ne nd] at hd; exact hd, ?_⟩⟩⟩
    have hd0 : Hx d = none := by rw [upd_ne nd] at hd; exact hd
    exact kk d G1 _ (ED.trans W (ext_raised w4 he hd0 nd)) upd_same
def spRefused (K : PySem.W.Frag) : Sp := fun vs H Q _ => ∃ (p l : Addr) (G : Hp) (pv : V) (nm : Str) (fns : List Fn), vs = [pv, .str nm] ∧ Wd p l G H ∧ Da K G pv (.tuple (fns.map fnD)) ∧ (fns.map (·.name)).Nodup ∧ fns.length ≤ 400 ∧ nm ∉ fns.map (·.name) ∧ Okd 60 16000000 (.str nm) ∧ ∀ G' H', Ext p l G H G' H' → Q (.bl true) H'
theorem D_refused (T : Txt K mg) : Df P w K mg base 6 "_law_is_refused" ["program", "name"] (spRefused K) := by
  obtain ⟨C, CH, fi, fid, hN, hHE, hkit, hS⟩ := T.x_NoFunction
  have D_run := DX_run (P := P) (w := w) (base := base) T hN hS
  obtain ⟨f1, fdd, Sd⟩ := T.d_l_is_refused
  refine Df.mk' (k := 5) Sd sc_l_is_refused (fun vs H Q E h => ?_) (fun cdv A outer s H vs Q E hgd hr h => ?_)
  · obtain ⟨p, l, G, pv, nm, fns, rfl, _⟩ := h
    rfl
  · obtain ⟨p, l, G, vp, nm, fns, rfl, W, dpv, nodup, lfn, hnot, hok, kk⟩ := h
    have hu := hu_of hr
    refine ⟨_, pss_one (ps_try_as (i := 2) (tb := fun W => tRet (tOp rEq (tCallS (spRefuse K C) (WE W) (tCons (tVar 0) (tCons (tVar 1) (tCons (tTup tNil) (tCons (tTup tNil) (tCons (tTup tNil) (tCons (tC (.int 0)) tNil))))))) (tC (.str "told"))))
      (ts := fun a cls d D σ H => cls = .ref C ∧ tRet (tAndV (tCB (rIsEd K C a d) (tCons (tVar 2) (tCons (tC (.ref CH)) tNil))) (tOp rEq (tCB (rRepr K) (tCons (tXf a cls d C "name" (tVar 2)) tNil)) (tCB (rRepr K) (tCons (tVar 1) tNil)))) D σ H) (Wout := fun _ _ _ _ => False) rfl rfl sc_l_is_refused.nd rfl rfl ⟨rfl, by decide, .inl hN.at_⟩ takes0
      (fun W pn xe tk _ => pss_one (ps_ret (pe_cmpR op_eq (pe_dS (E := WE W) D_run hgd hr (fun σ => passAt tk σ) (pa_cons (pv 0) (pa_cons (pv 1) (pa_cons (pe_tup pa_nil) (pa_cons (pe_tup pa_nil) (pa_cons (pe_tup pa_nil) (pa_cons pe_int pa_nil))))))) pe_str (nomark _))))
      (fun a oe cls d pn hz hf => pss_if fun hcd => pss_one (ps_ret (pe_and (pe_callB (call_isEd hN.is_ (by rw [hcd] at hz; exact hz) hf) (by rfl) T.b_isinstance (by decide +kernel) (pa_cons (pv 2) (pa_cons (pe_glob (v := .ref CH) (by rfl) hHE rfl) pa_nil)))
        (pe_one (pe_cmpR op_eq (pe_callB (call_repr hgd hr.units) (by rfl) T.b_repr (by decide +kernel) (pa_cons (pe_xf hN.xf hN.no hz hf (pv 2)) pa_nil)) (pe_callB (call_repr hgd hr.units) (by rfl) T.b_repr (by decide +kernel) (pa_cons (pv 1) pa_nil)) (nomark _))))))), ?_⟩
    refine ⟨_, rfl, _, rfl, Nat.zero_le _, fun q0 hq0 => ⟨Nat.zero_le _, fun q1 hq1 => ⟨Nat.zero_le _, fun q2 hq2 => ?_⟩⟩⟩
    have e0 := W.tmp (o := .tup []) hq0
    have e1 := e0.w.tmp (o := .tup []) hq1
    have e2 := e1.w.tmp (o := .tup []) hq2
    have E2 := (e0.trans W e1).trans W e2
    refine ⟨p, l, G, vp, _, _, _, _, nm, fns, rfl, E2.w, dpv, nodup, lfn, hnot, fun d G3 H3 e3 hd => ?_⟩
    have E3 := E2.trans W e3
    refine ⟨true, hN.exm, fun _ a ha => ⟨rfl, ?_⟩, fun q => Bool.noConfusion q⟩
    obtain ⟨w1, w2⟩ := ok_show hok.ok
    have hz : (PyData.str nm).shown.length ≤ 16000000 ∨ True := .inr trivial
    have sz := hok.sz
    have big : (16000000 : Nat) ≤ sizeLine := by decide
    refine ⟨_, rfl, V.ref CH, .ref CH, true, rfl, fun u r => r, hkit, ⟨d, _, rfl, hd⟩, true, rfl, if_yes rfl ?_⟩
    refine ⟨_, rfl, rfl, rfl, d, _, .str nm, rfl, hd, rfl, V.str nm, .str nm, G3, rfl, e3.w.same, .str nm, w1, hok.dp, by omega, ?_⟩
    refine ⟨_, rfl, V.str nm, .str nm, G3, rfl, e3.w.same, .str nm, w1, hok.dp, by omega, rfl, ?_⟩
    rw [decide_eq_true rfl]
    exact kk _ _ E3
end
end L2.Hx

/-! Whether a run is told to the fault. -/
namespace L2.Hx
open PySem PySem.Spec PyProof.Rows
structure GoOk (fs : List Fn) (go : Fn) (way : List Int) (due : Cells) (z : Nat) : Prop where
  nd : (fs.map (·.name)).Nodup
  lf : fs.length ≤ 400
  fo : FnsOk fs
  hf : findF fs "go" = some go
  lp : go.params.length = 1
  hit : ∀ lim : Int, (z : Int) ≤ lim → runM fs [] lim (st0 go [6] [(5, 0)]) = .fault "bad" way due z
  z1 : 1 ≤ z
  z2 : z ≤ 100
  sz : Okd 60 16000000 (.tuple (fs.map fnD))
  rz : Okd 10 1000000 (resD (.fault "bad" way due z))
def spTold (K : PySem.W.Frag) : Sp := fun vs H Q _ => ∃ (p l : Addr) (G : Hp) (vp vw vd : V) (b : Bool) (fs : List Fn) (go : Fn) (way : List Int) (due : Cells) (z : Nat), vs = [vp, vw, .int (z : Int), vd, .bl b] ∧ Wd p l G H ∧ Da K G vp (.tuple (fs.map fnD)) ∧ Da K G vw (wayD way) ∧ Da K G vd (cellsD due) ∧ GoOk fs go way due z ∧ ∀ G' H', Ext p l G H G' H' → Q (.bl true) H'
section
variable {P : Program} {w : World} {K : PySem.W.Frag} {mg : Str → Option Value} {base : Heap} {C CG : Addr} {p l : Addr} {σ : St} {G : Hp} {φ ψ : PyData → Prop} {t ta tb te : TE} {tt : TT} {tr : TA} {m : Nat}
theorem tcons_appS {G1 H : Hp} {Q : List V → Hp → Prop} (h : TD K p l σ G t φ) (W : Wd p l G1 H) (s : Same G G1) (k : ∀ v d G2 H2, Ext p l G1 H G2 H2 → Da K G2 v d → φ d → tr σ H2 fun xs H3 => Q (v :: xs) H3) : tCons t tr σ H Q := h G1 H _ W s k
theorem tupP_of {ta : TA} {H : Hp} {Q : VK} (h : ta σ H fun xs H1 => xs.length ≤ sizeLine ∧ ∀ p o, PlO o → H1 p = none → Q (.ref p) (upd H1 p (.frz o (.tup xs)))) : tTupP ta σ H Q := h
theorem tpl_one {a b : Int} : TPl K p l σ G (tTupP (tCons (tTup (tCons (tC (.int a)) (tCons (tC (.int b)) tNil))) tNil)) [(a, b)] := fun G1 H Q W s k => by
  refine tupP_of (tcons_appS (K := K) (G := G) (φ := fun d => d = .tuple [.int a, .int b]) tx_cell W s fun v d G2 H2 e da f => ?_)
  subst f
  obtain ⟨r, xs, rfl, sq, dx⟩ := da.tupI
  have ex : xs = [V.int a, V.int b] := by
    cases dx with | cons a1 t1 => cases t1 with | cons a2 t2 =>
    cases t2; cases a1; cases a2
    rfl
  subst ex
  refine ⟨(show 1 ≤ sizeLine by decide), fun q o ho hq => ?_⟩
  have e4 := e.w.put (o := .frz o (.tup [V.ref r])) hq
  exact k _ _ _ (e.trans W e4) ⟨q, [r], rfl, ⟨o, ho, upd_same⟩, .cons (sameT e4.sub sq) .nil⟩
theorem tcons_pl {cells : Cells} {H : Hp} {Q : List V → Hp → Prop} (h : TPl K p l σ G t cells) (W : Wd p l G H) (k : ∀ v G2 H2, Ext p l G H G2 H2 → PlCells K G2 v cells → tr σ H2 fun xs H3 => Q (v :: xs) H3) : tCons t tr σ H Q := h G H _ W (Same.refl _) k
theorem asg_lst1 {i : Nat} {D : Ends} {H : Hp} (h : tCons t tNil σ H fun xs H1 => xs.length ≤ sizeLine ∧ ∀ q, H1 q = none → D.nx (σ.set i (some (.ref q))) (upd H1 q (.lst xs))) : tAsg (tLst (tCons t tNil)) (gName i) D σ H := h
theorem tx_eqS {x y : Str} (ha : TX K p l σ G ta (.str x)) (hb : TX K p l σ G tb (.str y)) : TX K p l σ G (tOp rEq ta tb) (.bool (decide (x = y))) := fun G1 H Q W s k =>
  ha G1 H _ W s fun v d G2 H2 e da f => hb G2 H2 _ e.w (s.trans e.sub) fun u d2 G3 H3 e3 da3 f3 => by
    subst f f3
    cases da
    cases da3
    refine ⟨rfl, ?_⟩
    rw [show decide (V.str x = V.str y) = decide (x = y) from decide_eq_decide.mpr ⟨fun h => by injection h, fun h => by rw [h]⟩]
    exact k _ _ _ _ (e.trans W e3) (.bl _) rfl
theorem tx_repN {n : Nat} {d : PyData} (ha : TX K p l σ G ta (.list [d])) (hb : TX K p l σ G tb (.int (n : Int))) (hn : n ≤ 10) : TX K p l σ G (tOp rRep ta tb) (.list (List.replicate n d)) := fun G1 H Q W s k =>
  ha G1 H _ W s fun v e1 G2 H2 e da f => hb G2 H2 _ e.w (s.trans e.sub) fun u e2 G3 H3 e3 da3 f3 => by
    subst f f3
    cases da3
    have da := da.mono e3.sub
    have big : (1000 : Nat) ≤ sizeLine := by decide
    cases da with
    | @lst a xs _ t1 a1 =>
    cases a1 with | @cons x _ _ _ d1 t2 =>
    cases t2
    have fl : ∀ n : Nat, (List.replicate n [x]).flatten = List.replicate n x := fun n => by
      induction n with
      | zero => rfl
      | succ n ih => rw [List.replicate_succ, List.flatten_cons, ih]; rfl
    refine ⟨a, _, [x], rfl, rfl, e3.w.same _ _ t1, by omega, by omega, by rw [Int.toNat_natCast]; show 1 * n ≤ _; omega, fun q hq => ?_⟩
    rw [Int.toNat_natCast, fl n]
    have e4 := e3.w.put (o := .lst (List.replicate n x)) hq
    refine k _ _ _ _ ((e.trans W e3).trans W e4) (.lst upd_same ?_) rfl
    have d4 := d1.mono e4.sub
    have rp : ∀ (G5 : Hp), Da K G5 x d → ∀ n, DaAll K G5 (List.replicate n x) (List.replicate n d) := fun G5 d4 n => by
      induction n with
      | zero => exact .nil
      | succ n ih => exact .cons d4 ih
    exact rp _ d4 n
theorem D_told (T : Txt K mg) (S : FrS K mg C) (SG : GrS K mg CG) : Df P w K mg base 6 "_law_is_told" ["program", "way", "steps", "due", "is_named"] (spTold K) := by
  have D_run := D_run (P := P) (w := w) (base := base) T S SG
  have DK_run := (DS_run (P := P) (w := w) (base := base) T S SG).kw (ks := ["limit", "choices", "heap", "args", "name", "program"]) (g := rev6) fun _ _ _ _ _ _ ws hl => match ws, hl with | [_, _, _, _, _, _], _ => rfl
  obtain ⟨f, fd, Sd⟩ := T.d_l_is_told
  refine Df.mk' (k := 5) Sd sc_l_is_told (fun vs H Q E h => ?_) (fun cdv A outer s H vs Q E hgd hr h => ?_)
  · obtain ⟨p, l, G, vp, vw, vd, b, fs, go, way, due, z, rfl, _⟩ := h
    rfl
  · obtain ⟨p, l, G, vp, vw, vd, b, fs, go, way, due, z, rfl, W, dvp, dvw, dvd, ok, kk⟩ := h
    have big : (16000000 : Nat) ≤ sizeLine := by decide
    refine ⟨_, (pss_cons (ps_par (i := 5) (j := 6) (by rfl) sc_l_is_told.nd rfl rfl (by decide) rfl rfl (pa_cons (pe_tupP (pa_cons (pe_tup (pa_cons pe_int (pa_cons pe_int pa_nil))) pa_nil)) (pa_cons (pe_callB (call_repr hgd hr.units) (by rfl) T.b_repr (by decide +kernel) (pa_cons (pv 0) pa_nil)) pa_nil)) (by rfl))
      (pss_cons (ps_set (i := 7) sc_l_is_told.nd rfl (.inl rfl) (pe_lst (pa_cons (pe_d D_run hgd hr (pa_cons (pv 0) (pa_cons pe_str (pa_cons (pe_tup (pa_cons pe_int pa_nil)) (pa_cons (pv 5) (pa_cons (pe_tup pa_nil) (pa_cons (pv 2) pa_nil))))))) pa_nil)))
      (pss_cons (ps_if (pt_val (pv 4)) (pss_one (ps_expr (pe_bm PySem.F.plainAttrs_list PySem.F.slot_list_append PySem.F.type_list_append mt_append (pv 7) (pa_cons (pe_kwg (g := rev6) DK_run hgd hr (pk_cons (pe_op op_add (pv 2) pe_int) (pk_cons (pe_tup pa_nil) (pk_cons (pv 5) (pk_cons (pe_tup (pa_cons pe_int pa_nil)) (pk_cons pe_str (pk_cons (pv 0) pk_nil)))))) rev6_rel) pa_nil)))) pss_nil)
      (pss_cons (ps_if (PW.pt (pw_or (pt_cmpR op_ne (pe_callB (call_repr hgd hr.units) (by rfl) T.b_repr (by decide +kernel) (pa_cons (pv 7) pa_nil)) (pe_callB (call_repr hgd hr.units) (by rfl) T.b_repr (by decide +kernel) (pa_cons (pe_op op_rep (pe_lst (pa_cons (pe_tup (pa_cons pe_str (pa_cons pe_str (pa_cons (pv 1) (pa_cons (pv 3) (pa_cons (pv 2) pa_nil)))))) pa_nil)) (pe_callB call_len_seq (by rfl) T.b_len (by decide +kernel) (pa_cons (pv 7) pa_nil))) pa_nil)) (nomark _)) (pw_or1 (pt_cmpR op_ne (pe_callB (call_repr hgd hr.units) (by rfl) T.b_repr (by decide +kernel) (pa_cons (pv 0) pa_nil)) (pv 6) (nomark _))))) (pss_one (ps_ret pe_bl)) pss_nil)
      (pss_cons (ps_set (i := 7) sc_l_is_told.nd rfl (.inl rfl) (pe_lst (pa_cons (pe_d D_run hgd hr (pa_cons (pv 0) (pa_cons pe_str (pa_cons (pe_tup (pa_cons pe_int pa_nil)) (pa_cons (pv 5) (pa_cons (pe_tup pa_nil) (pa_cons (pe_op op_sub (pv 2) pe_int) pa_nil))))))) (pa_cons (pe_d D_run hgd hr (pa_cons (pv 0) (pa_cons pe_str (pa_cons (pe_tup (pa_cons pe_int pa_nil)) (pa_cons (pv 5) (pa_cons (pe_tup pa_nil) (pa_cons pe_int pa_nil))))))) pa_nil))))
      (pss_one (ps_ret (pe_cmpR op_eq (pe_callB (call_repr hgd hr.units) (by rfl) T.b_repr (by decide +kernel) (pa_cons (pv 7) pa_nil)) (pe_callB (call_repr hgd hr.units) (by rfl) T.b_repr (by decide +kernel) (pa_cons (pe_lst (pa_cons (pe_tup (pa_cons pe_str pa_nil)) (pa_cons (pe_tup (pa_cons pe_str pa_nil)) pa_nil))) pa_nil)) (nomark _))))))))), ?_⟩
    have hz := ok.hit z (Int.le_refl _)
    have z1 := ok.z1
    have z2 := ok.z2
    have hs : stR (runM fs [] (z : Int) (st0 go [6] [(5, 0)])) = some (z : Int) := by rw [hz]; rfl
    obtain ⟨_, _, _, hl⟩ := runM_least (s := st0 go [6] [(5, 0)]) (show (0 : Int) ≤ (z : Int) by omega) hs
    have l1 := hl ((z : Int) - 1) (show (0 : Int) ≤ (z : Int) - 1 by omega) (by omega)
    have l0 := hl 0 (show (0 : Int) ≤ 0 by omega) (by omega)
    refine seq_of (par_2 ?_)
    refine tcons_pl (K := K) (G := G) tpl_one W fun hv G1 H1 e1 hpl => ?_
    refine tcons_app (G := G1) (φ := fun x => x = .str (PyData.shown (.tuple (fs.map fnD)))) (tx_repr (td_is rfl (dvp.mono e1.sub)) ok.sz) e1.w fun kv d G2 H2 e2 dkv ed => ?_
    subst ed
    cases dkv
    refine ⟨_, _, rfl, ?_⟩
    dsimp only [gName, List.set]
    have E2 := e1.trans W e2
    have d2 := dvp.mono E2.sub
    have p2 := hpl.mono e2.sub
    have runS : ∀ {σ' : St} {G' : Hp} {tl : TE} {lim : Int}, Same G2 G' → σ'[0]? = some (some vp) → σ'[5]? = some (some hv) → TX K p l σ' G' tl (.int lim) → 0 ≤ lim → lim ≤ 10000 →
        TX K p l σ' G' (tCall (spRun K) [] E0 (tCons (tVar 0) (tCons (tC (.str "go")) (tCons (tTup (tCons (tC (.int 6)) tNil)) (tCons (tVar 5) (tCons (tTup tNil) (tCons tl tNil))))))) (resD (runM fs [] lim (st0 go [6] [(5, 0)]))) := fun sg h0 h5 hl a b =>
      tx_runS (vals := [6]) (cs := []) (cells := [(5, 0)]) (td_is h0 (d2.mono sg)) tx_str (tx_tupR (tx_cons tx_int tx_nil)) (tpl_var h5 (p2.mono sg)) (tx_tupR tx_nil) hl ok.nd ok.lf ok.fo ok.hf (by rw [ok.lp]; rfl) (by simp) (by decide) (by decide) (by simp) a b
    refine seq_of (asg_lst1 ?_)
    refine tcons_app (G := G2) (φ := fun x => x = resD (.fault "bad" way due z)) (tx_to (runS (Same.refl _) rfl rfl (td_is rfl (.int _)) (by omega) (by omega)) (by rw [hz])) E2.w fun rv d G3 H3 e3 drv ed => ?_
    subst ed
    refine ⟨(show 1 ≤ sizeLine by decide), fun L hL => ?_⟩
    have E3 := E2.trans W e3
    have nLp := E3.w.np hL
    have nLl := E3.w.nl hL
    have g3 := E3.w.same.free hL
    have eL := E3.w.tmp (o := .lst [rv]) hL
    dsimp only [gName, List.set]
    refine seq_by (fun σ2 Hx => ∃ (n : Nat) (vs : List V) (G6 : Hp), σ2 = [some vp, some vw, some (.int (z : Int)), some vd, some (.bl b), some hv, some (.str (PyData.shown (.tuple (fs.map fnD)))), some (.ref L)] ∧ Ext p l G3 H3 G6 Hx ∧ G6 L = none ∧ Hx L = some (.lst vs) ∧ DaAll K G6 vs (List.replicate n (resD (.fault "bad" way due z))) ∧ 1 ≤ n ∧ n ≤ 2) (fun nx => ?_) ?_
    · have hL1 : (upd H3 L (.lst [rv])) L = some (.lst [rv]) := upd_same
      generalize upd H3 L (.lst [rv]) = H4 at eL nx hL1 ⊢
      cases b with
      | false =>
        have fin := nx _ _ ⟨1, [rv], G3, rfl, eL, g3, hL1, .cons drv .nil, by decide, by decide⟩
        refine ⟨_, rfl, _, rfl, if_no rfl ?_⟩
        exact fin
      | true =>
        refine ⟨_, rfl, _, rfl, if_yes rfl ?_⟩
        refine ⟨_, rfl, .inl ⟨rfl, _, SqL.of hL1⟩, ?_⟩
        refine tcons_app (G := G3) (φ := fun x => x = resD (.fault "bad" way due z)) (tx_to (tx_runK (vals := [6]) (cs := []) (cells := [(5, 0)]) (td_is rfl (d2.mono e3.sub)) tx_str (tx_tupR (tx_cons tx_int tx_nil)) (tpl_var rfl (p2.mono e3.sub)) (tx_tupR tx_nil) (tx_add (td_is rfl (.int _)) tx_int) ok.nd ok.lf ok.fo ok.hf (by rw [ok.lp]; rfl) (by simp) (by decide) (by decide) (by simp) (by omega) (by omega)) (by rw [ok.hit _ (by omega)])) eL.w fun rv2 d G5 H5 e5 drv2 ed => ?_
        subst ed
        have hL5 := e5.keep _ _ nLp nLl hL1
        have g5 := e5.new _ _ hL1 g3
        have E5 := eL.trans E3.w e5
        exact ⟨L, [rv], rv2, rfl, rfl, hL5, (show 1 < sizeLine by decide), nx _ _ ⟨2, [rv, rv2], G5, rfl, ⟨e5.w.own nLp nLl g5, E5.sub, fun b o n1 n2 q => by rw [upd_ne (ne_of_none q hL)]; exact E5.keep b o n1 n2 q, E5.new⟩, g5, upd_same, .cons (drv.mono e5.sub) (.cons drv2 .nil), by decide, by decide⟩⟩
    rintro σ2 H6 ⟨n, vs, G6, rfl, e6, g6, hL6, dvs, n1, n2⟩
    obtain ⟨w7, s7⟩ := e6.w.hold nLp nLl g6 hL6
    have dL : Da K (upd G6 L (.lst vs)) (.ref L) (.list (List.replicate n (resD (.fault "bad" way due z)))) := .lst upd_same (dvs.mono s7)
    have E7 : Ext p l G3 H3 (upd G6 L (.lst vs)) H6 := ⟨w7, e6.sub.trans s7, e6.keep, fun b o q g => by
      rw [upd_ne (ne_of_none q hL)]
      exact e6.new b o q g⟩
    generalize upd G6 L (.lst vs) = G7 at w7 dL E7
    clear e6 g6 hL6 dvs s7 eL
    have okn : ∀ n : Nat, n ≤ 2 → Okd 60 16000000 (.list (List.replicate n (resD (.fault "bad" way due z)))) := fun n hn => Okd.mono (Okd.list (k := 10) (n := 1000000) (m := 2) (fun d m => by rw [List.eq_of_mem_replicate m]; exact ok.rz) (by rw [List.length_replicate]; exact hn) (N := 2100000) (by decide)) (by decide) (by decide)
    have s27 := e3.sub.trans E7.sub
    have sG7 := E2.sub.trans s27
    have prog : ∀ {σ' : St} {G' : Hp}, Same G2 G' → σ'[0]? = some (some vp) → TX K p l σ' G' (tCB (rRepr K) (tCons (tVar 0) tNil)) (.str (PyData.shown (.tuple (fs.map fnD)))) := fun sg h => tx_repr (td_is h (d2.mono sg)) ok.sz
    have own : ∀ {σ' : St}, σ'[1]? = some (some vw) → σ'[2]? = some (some (.int (z : Int))) → σ'[3]? = some (some vd) → TX K p l σ' G7 (tLst (tCons (tTup (tCons (tC (.str "fault")) (tCons (tC (.str "bad")) (tCons (tVar 1) (tCons (tVar 3) (tCons (tVar 2) tNil)))))) tNil)) (.list [resD (.fault "bad" way due z)]) := fun h1 h2 h3 =>
      tx_lst (tx_cons (tx_tupR (tx_cons tx_str (tx_cons tx_str (tx_cons (td_is h1 (dvw.mono sG7)) (tx_cons (td_is h3 (dvd.mono sG7)) (tx_cons (td_is h2 (.int _)) tx_nil)))))) tx_nil) (show 1 ≤ sizeLine by decide)
    refine seq_of (ttx_no (K := K) (ttx_or (ttx_neS (tx_repr (td_is rfl dL) (okn n n2)) (tx_repr (tx_repN (own rfl rfl rfl) (tx_to (tx_len (td_is rfl dL)) (by rw [List.length_replicate])) (by omega)) (okn n n2))) (ttx_neS (prog s27 rfl) (td_is rfl (.str _)))) ?_ w7 fun G8 H8 e8 => ?_)
    · rw [decide_eq_true rfl, decide_eq_true rfl]
      rfl
    dsimp only [tNext]
    have E8 := E7.trans E3.w e8
    have s28 := s27.trans e8.sub
    refine seq_of (TD.asg (K := K) (p := p) (l := l) (G := G8) (φ := fun d => d = .list [resD .long, resD .long]) (tx_lst (tx_cons (tx_to (runS s28 rfl rfl (tx_subI (td_is rfl (.int _))) (by omega) (by omega)) (by rw [l1])) (tx_cons (tx_to (runS s28 rfl rfl tx_int (by decide) (by decide)) (by rw [l0])) tx_nil)) (show 2 ≤ sizeLine by decide)) e8.w fun tv d G9 H9 e9 dtv ed => ?_)
    subst ed
    dsimp only [gName, List.set]
    have okl : Okd 60 16000000 (.list [resD .long, resD .long]) := Okd.mono (Okd.list (k := 1) (n := 100) (m := 2) (fun d m => by
      have : d = resD .long := by
        rcases List.mem_cons.mp m with h | m
        · exact h
        · exact List.mem_singleton.mp m
      rw [this]
      exact ⟨by decide +kernel, by decide +kernel, by decide +kernel⟩) (Nat.le_refl 2) (N := 300) (by decide)) (by decide) (by decide)
    have lng : ∀ {σ' : St}, TX K p l σ' G9 (tTup (tCons (tC (.str "long")) tNil)) (resD .long) := tx_tupR (tx_cons tx_str tx_nil)
    refine TD.ret (K := K) (p := p) (l := l) (G := G9) (φ := fun d => d = .bool true) (tx_to (tx_eqS (tx_repr (td_is rfl dtv) okl) (tx_repr (tx_lst (tx_cons lng (tx_cons lng tx_nil)) (show 2 ≤ sizeLine by decide)) okl)) (by rw [decide_eq_true rfl])) e9.w (fun v d G6 H6 x da f => by
      subst f
      cases da
      exact kk _ _ ((((E3.trans W E8)).trans W e9).trans W x))
end
end L2.Hx

/-! The three functions together, plainly. -/
namespace L2.Hx
open PySem PySem.Spec PyProof.Rows
def badF (own : List Ss) (m : Nat) : Fn := plainF "bad" ["q"] ["a", "b"] (own ++ ops (List.replicate m (.set "result" "q")))
def bodyM : List Ss := [.op (.set "x" "q"), .call "result" "bad" ["x"] (.tuple []), .op (.free "nil")]
def midF : Fn := plainF "mid" ["q"] ["x"] bodyM
def callee (far : Nat) : Str := if far = 1 then "mid" else "bad"
def goF28 (far : Nat) : Fn := plainF "go" ["p"] ["c"] [.call "c" (callee far) ["p"] (.tuple []), .op (.free "p")]
theorem bad_hits {fs : List Fn} {own : List Ss} {way : List Int} {steps m : Nat} {due : Cells} (h : Hits own way steps due) (lim : Int) (f : Fr) (rest : List Fr) (st : Int) (h0 : f.wf "nil" = 0) (h6 : f.wf "q" = 6) (hn : f.name = "bad") (ht : f.todo = queF [] 0 (badF own m).body) (hl : st + steps + 1 ≤ lim) : runM fs [] lim ⟨f :: rest, [(5, 0)], 0, st⟩ = .fault "bad" way due (st + steps + 1) := by
  have := hits_more (more := ops (List.replicate m (.set "result" "q"))) h fs lim f rest [] [] st h0 h6 (by rw [ht, List.append_nil]; rfl) hl
  rw [this, hn, List.nil_append]
theorem run_bad {fs : List Fn} {own : List Ss} {way : List Int} {steps m : Nat} {due : Cells} (h : Hits own way steps due) (lim : Int) (hl : ((steps + 1 : Nat) : Int) ≤ lim) : runM fs [] lim (st0 (badF own m) [6] [(5, 0)]) = .fault "bad" way due ((steps + 1 : Nat) : Int) := by
  have := bad_hits (fs := fs) (m := m) h lim (newFr (badF own m) [6] "nil") [] 0 rfl rfl rfl rfl (by omega)
  show runM fs [] lim ⟨[newFr (badF own m) [6] "nil"], [(5, 0)], 0, 0⟩ = _
  rw [this, show (0 : Int) + (steps : Int) + 1 = ((steps + 1 : Nat) : Int) by omega]
theorem run_go {fs : List Fn} {own : List Ss} {way : List Int} {steps m far : Nat} {due : Cells} (h : Hits own way steps due) (hf : far < 2) (hb : findF fs "bad" = some (badF own m)) (hm : findF fs "mid" = some midF) (lim : Int) (hl : ((steps + 2 + 2 * far : Nat) : Int) ≤ lim) : runM fs [] lim (st0 (goF28 far) [6] [(5, 0)]) = .fault "bad" way due ((steps + 2 + 2 * far : Nat) : Int) := by
  obtain rfl | rfl : far = 0 ∨ far = 1 := by omega
  · show runM fs [] lim ⟨[newFr (goF28 0) [6] "nil"], [(5, 0)], 0, 0⟩ = _
    rw [runM_go (by show (0 : Int) ≤ lim; omega) (stepR_of (.call (way := [0]) (x := "c") (g := "bad") (as := ["p"]) (sp := .tuple []) (td := [([1], .op (.free "p"))]) rfl (by omega) hb))]
    rw [bad_hits h lim _ _ _ rfl rfl rfl rfl (by omega), show (0 : Int) + 1 + (steps : Int) + 1 = ((steps + 2 + 2 * 0 : Nat) : Int) by omega]
  · show runM fs [] lim ⟨[newFr (goF28 1) [6] "nil"], [(5, 0)], 0, 0⟩ = _
    rw [runM_go (by show (0 : Int) ≤ lim; omega) (stepR_of (.call (way := [0]) (x := "c") (g := "mid") (as := ["p"]) (sp := .tuple []) (td := [([1], .op (.free "p"))]) rfl (by omega) hm))]
    rw [runM_go (by show (0 : Int) + 1 ≤ lim; omega) (stepR_of (.plain (way := [0]) (o := .set "x" "q") (td := [([1], .call "result" "bad" ["x"] (.tuple [])), ([2], .op (.free "nil"))]) (n2 := 0) rfl (by omega) rfl))]
    rw [runM_go (by show (0 : Int) + 1 + 1 ≤ lim; omega) (stepR_of (.call (way := [1]) (x := "result") (g := "bad") (as := ["x"]) (sp := .tuple []) (td := [([2], .op (.free "nil"))]) rfl (by omega) hb))]
    rw [bad_hits h lim _ _ _ rfl rfl rfl rfl (by omega), show (0 : Int) + 1 + 1 + 1 + (steps : Int) + 1 = ((steps + 2 + 2 * 1 : Nat) : Int) by omega]
end L2.Hx

/-! The three functions are a program. -/
namespace L2.Hx
open PySem PySem.Spec PyProof.Rows
theorem okS_mono {fns : List Fn} {ns : List Str} : ∀ {s : Ss} {n m : Nat}, n ≤ m → okS fns ns n s → okS fns ns m s
  | .op o, n, m, _, h => by rw [okS] at h ⊢; exact h
  | .call x f as sp, n, m, _, h => by rw [okS] at h ⊢; exact h
  | .ite t a b, n, m, le, h => by
    rw [okS] at h ⊢
    obtain ⟨h1, h2, h3, h4, h5⟩ := h
    refine ⟨by omega, h2, okL_iff.mpr fun s ms => ?_, okL_iff.mpr fun s ms => ?_, h5⟩
    · exact okS_mono (by omega) (okL_iff.mp h3 s ms)
    · exact okS_mono (by omega) (okL_iff.mp h4 s ms)
  | .whl t k a, n, m, le, h => by
    rw [okS] at h ⊢
    obtain ⟨h1, h2, h3, h4⟩ := h
    refine ⟨by omega, h2, okL_iff.mpr fun s ms => ?_, h4⟩
    exact okS_mono (by omega) (okL_iff.mp h3 s ms)
theorem okL_mono {fns : List Fn} {ns : List Str} {ss : List Ss} {n m : Nat} (le : n ≤ m) (h : okL fns ns n ss) : okL fns ns m ss := okL_iff.mpr fun s ms => okS_mono le (okL_iff.mp h s ms)
def more (m : Nat) : List Op := List.replicate m (.set "result" "q")
theorem more_mem {m : Nat} : ∀ o ∈ more m, o ∈ okOps := fun o h => by
  rw [List.eq_of_mem_replicate h]
  simp [okOps, wrongs]
theorem own_more {n m : Nat} {own : List Ss} (h : OwnOk n own) (hm : m ≤ 1) : Okd (2 * n + 2) (sizB n + 300) (.tuple (slD (own ++ ops (more m)))) ∧ (PyData.tuple (slD (own ++ ops (more m)))).canLay0 = true := by
  have e : slD (own ++ ops (more m)) = slD own ++ (more m).map opD := by
    rw [slD_map, List.map_append, ← slD_map, ← slD_map, slD_ops]
  have all : ∀ d ∈ (more m).map opD, Okd 1 279 d ∧ d.canLay0 = true := fun d md => by
    obtain ⟨o, mo, rfl⟩ := List.mem_map.mp md
    exact op_okd (more_mem o mo)
  have z1 := h.sz.sz
  have z1 : sizAll (slD own) + 3 ≤ sizB n := z1
  rw [e]
  refine ⟨⟨okAll_of fun d md => ?_, ?_, ?_⟩, ?_⟩
  · rcases List.mem_append.mp md with md | md
    · have q := h.sz.ok
      have : ∀ {ds : List PyData}, okAll ds = true → ∀ x ∈ ds, okB x = true := fun {ds} => by
        induction ds with
        | nil => exact fun _ x m => absurd m List.not_mem_nil
        | cons y ys ih =>
          intro hq x mx
          rw [okAll, Bool.and_eq_true] at hq
          rcases List.mem_cons.mp mx with rfl | mx
          · exact hq.1
          · exact ih hq.2 x mx
      exact this (show okAll (slD own) = true from q) d md
    · exact (all d md).1.ok
  · have q := h.sz.dp
    simp only [PyData.depth] at q ⊢
    have : ∀ a b : List PyData, ∀ k, PyData.depthAll a ≤ k → PyData.depthAll b ≤ k → PyData.depthAll (a ++ b) ≤ k := fun a b k => by
      induction a with
      | nil => exact fun _ h => h
      | cons y ys ih =>
        intro h1 h2
        rw [PyData.depthAll] at h1
        rw [List.cons_append, PyData.depthAll]
        have := ih (by omega) h2
        omega
    have h2 : PyData.depthAll ((more m).map opD) ≤ 2 * n + 1 := Nat.le_trans (depthAll_le (n := 1) fun d md => (all d md).1.dp) (by omega)
    have := this (slD own) ((more m).map opD) (2 * n + 1) (by omega) h2
    omega
  · show sizAll (slD own ++ (more m).map opD) + 3 ≤ _
    rw [sizAll_app]
    have h1 := sizAll_le (n := 279) (xs := (more m).map opD) fun d md => (all d md).1.sz
    rw [List.length_map, more, List.length_replicate] at h1
    have h2 : (279 + 2) * m ≤ 281 * 1 := Nat.mul_le_mul_left _ hm
    rw [more]
    omega
  · simp only [PyData.canLay0]
    refine lay_app ?_ (lay_all fun d md => (all d md).2)
    have q := h.ly
    simp only [PyData.canLay0] at q
    exact q
theorem fn_okd {nm : Str} {ps ws : List Str} {body : List Ss} {B : Nat} (h1 : Okd 0 90 (.str nm) ∧ (PyData.str nm).canLay0 = true) (h2 : Okd 1 300 (.tuple (ps.map .str)) ∧ (PyData.tuple (ps.map .str)).canLay0 = true) (h3 : Okd 1 300 (.tuple (ws.map .str)) ∧ (PyData.tuple (ws.map .str)).canLay0 = true) (h4 : Okd 11 B (.tuple (slD body)) ∧ (PyData.tuple (slD body)).canLay0 = true) : Okd 12 (B + 1500) (fnD (plainF nm ps ws body)) ∧ Shp (fnD (plainF nm ps ws body)) := by
  have o : Okd 12 (B + 1500) (fnD (plainF nm ps ws body)) := by
    unfold fnD plainF
    rw [← slD_map]
    exact okd_tupL (k := 11) (ns := [90, 300, 3, 300, 100, 100, B]) (.cons (h1.1.mono (by decide) (by decide)) (.cons (h2.1.mono (by decide) (by decide)) (.cons (show Okd 11 3 (.tuple []) from ⟨by decide +kernel, by decide +kernel, by decide +kernel⟩) (.cons (h3.1.mono (by decide) (by decide)) (.cons (show Okd 11 100 empS from ⟨by decide +kernel, by decide +kernel, by decide +kernel⟩) (.cons (show Okd 11 100 empS from ⟨by decide +kernel, by decide +kernel, by decide +kernel⟩) (.cons h4.1 .nil))))))) _ (by simp only [List.map_cons, List.map_nil, List.sum_cons, List.sum_nil]; omega)
  refine ⟨o, ?_, Nat.le_trans o.dp (by decide)⟩
  unfold fnD plainF
  rw [← slD_map]
  simp only [PyData.canLay0, PyData.canLayAll0]
  have a := h2.2
  have b := h3.2
  have c := h4.2
  have d := h1.2
  simp only [PyData.canLay0] at a b c d
  rw [a, b, c, d]
  decide +kernel
theorem three_shp {n m far : Nat} {own : List Ss} (h : OwnOk n own) (hn : n ≤ 4) (hm : m ≤ 1) (hf : far < 2) : ∀ f ∈ [badF own m, midF, goF28 far], Okd 12 20000 (fnD f) ∧ Shp (fnD f) := fun f mf => by
  have mono : ∀ {B : Nat} {d : PyData}, B ≤ 20000 → Okd 12 B d ∧ Shp d → Okd 12 20000 d ∧ Shp d := fun hB q => ⟨q.1.mono (Nat.le_refl _) hB, q.2⟩
  have sb : sizB n ≤ 13500 := by
    obtain rfl | rfl | rfl | rfl | rfl : n = 0 ∨ n = 1 ∨ n = 2 ∨ n = 3 ∨ n = 4 := by omega
    all_goals decide
  rcases List.mem_cons.mp mf with rfl | mf
  · obtain ⟨a, b⟩ := own_more h hm
    exact mono (B := sizB n + 300 + 1500) (by omega) (fn_okd ⟨⟨by decide +kernel, by decide +kernel, by decide +kernel⟩, by decide +kernel⟩ ⟨⟨by decide +kernel, by decide +kernel, by decide +kernel⟩, by decide +kernel⟩ ⟨⟨by decide +kernel, by decide +kernel, by decide +kernel⟩, by decide +kernel⟩ ⟨a.mono (by omega) (Nat.le_refl _), b⟩)
  rcases List.mem_cons.mp mf with rfl | mf
  · exact ⟨⟨by decide +kernel, by decide +kernel, by decide +kernel⟩, by decide +kernel, by decide +kernel⟩
  · rw [List.mem_singleton.mp mf]
    obtain rfl | rfl : far = 0 ∨ far = 1 := by omega
    all_goals exact ⟨⟨by decide +kernel, by decide +kernel, by decide +kernel⟩, by decide +kernel, by decide +kernel⟩
structure Three (own : List Ss) (m far : Nat) (gs : List Fn) : Prop where
  nd : (gs.map (·.name)).Nodup
  ln : gs.length = 3
  hb : findF gs "bad" = some (badF own m)
  hm : findF gs "mid" = some midF
  hg : findF gs "go" = some (goF28 far)
  fo : FnsOk gs
  sz : Okd 60 16000000 (.tuple (gs.map fnD))
  nm : ∀ x : Str, x ∈ gs.map (·.name) → x = "bad" ∨ x = "mid" ∨ x = "go"
theorem three_ok {n m far : Nat} {own : List Ss} {gs : List Fn} (h : OwnOk n own) (hn : n ≤ 4) (hm : m ≤ 1) (hf : far < 2) (hp : gs.Perm [badF own m, midF, goF28 far]) : Three own m far gs := by
  have pn : (gs.map (·.name)).Perm (["bad", "mid", "go"] : List Str) := hp.map (·.name)
  have nd : (gs.map (·.name)).Nodup := pn.nodup_iff.mpr (by decide +kernel)
  have fb : findF gs "bad" = some (badF own m) := find_own (f := badF own m) nd (hp.mem_iff.mpr List.mem_cons_self)
  have fm : findF gs "mid" = some midF := find_own (f := midF) nd (hp.mem_iff.mpr (by simp))
  have fg : findF gs "go" = some (goF28 far) := find_own (f := goF28 far) nd (hp.mem_iff.mpr (by simp))
  refine ⟨nd, hp.length_eq, fb, fm, fg, fun x f hx => ?_, ?_, fun x mx => ?_⟩
  · have mf := hp.mem_iff.mp (List.mem_of_find?_eq_some hx)
    have ln := h.ln
    rcases List.mem_cons.mp mf with rfl | mf
    · refine ⟨okL_iff.mpr fun s ms => ?_, ?_, (show 1 ≤ 400 by decide), (show 2 ≤ 400 by decide)⟩
      · rcases List.mem_append.mp ms with ms | ms
        · exact okS_mono (by omega) (okL_iff.mp (h.ok gs) s ms)
        · obtain ⟨o, mo, rfl⟩ := List.mem_map.mp ms
          rw [okS]
          exact okO_bad (more_mem o mo)
      · show (own ++ ops (more m)).length ≤ 45
        unfold ops more
        rw [List.length_append, List.length_map, List.length_replicate]
        omega
    rcases List.mem_cons.mp mf with rfl | mf
    · refine ⟨okL_iff.mpr fun s ms => ?_, by decide, by decide, by decide⟩
      have ms : s ∈ bodyM := ms
      unfold bodyM at ms
      simp only [List.mem_cons, List.not_mem_nil, or_false] at ms
      rcases ms with rfl | rfl | rfl
      · rw [okS]; exact ⟨by decide +kernel, by decide +kernel⟩
      · rw [okS]; exact ⟨by decide +kernel, by decide +kernel, _, fb, rfl⟩
      · rw [okS]; show _ ∈ _; decide +kernel
    · rw [List.mem_singleton.mp mf]
      refine ⟨okL_iff.mpr fun s ms => ?_, (show 2 ≤ 45 by decide), (show 1 ≤ 400 by decide), (show 1 ≤ 400 by decide)⟩
      have ms : s ∈ [.call "c" (callee far) ["p"] (.tuple []), .op (.free "p")] := ms
      simp only [List.mem_cons, List.not_mem_nil, or_false] at ms
      rcases ms with rfl | rfl
      · rw [okS]
        obtain rfl | rfl : far = 0 ∨ far = 1 := by omega
        · exact ⟨by decide +kernel, by decide +kernel, _, fb, rfl⟩
        · exact ⟨by decide +kernel, by decide +kernel, _, fm, rfl⟩
      · rw [okS]; exact (show ("p" : Str) ∈ (["nil", "result", "c", "p"] : List Str) by decide +kernel)
  · exact Okd.mono (Okd.tup (k := 12) (n := 20000) (m := 3) (fun d md => by
      obtain ⟨f, mf, rfl⟩ := List.mem_map.mp md
      exact (three_shp h hn hm hf f (hp.mem_iff.mp mf)).1) (by rw [List.length_map, hp.length_eq]; exact Nat.le_refl 3) (N := 70000) (by decide)) (by decide) (by decide)
  · have := pn.mem_iff.mp mx
    simpa using this
end L2.Hx

/-! The law. -/
namespace L2.Hx
open PySem PySem.Spec PyProof.Rows
def spLaw (K : PySem.W.Frag) : Sp := fun vs H Q _ => ∃ (a : Addr) (ns : List Int), vs = [.ref a] ∧ SqL K H a (ns.map V.int) ∧ ns.length ≤ 63 ∧ ∀ H', Q (.bl true) H'
section
variable {K : PySem.W.Frag} {p l : Addr} {σ : St} {G : Hp} {φ ψ : PyData → Prop} {t ta tb te : TE} {tt : TT} {tr : TA}
theorem td_callF {R : List PyData → PyData → Prop} {Φ : List PyData → Prop} (h : TDs K p l σ G tr Φ) (hR : ∀ ds, Φ ds → ∃ d, R ds d ∧ φ d) : TD K p l σ G (tCall (spF K R) [] E0 tr) φ := fun G1 H Q W s k => h G1 H _ W s fun vs ds G2 H2 e da f => by
  obtain ⟨d, hd, hφ⟩ := hR ds f
  exact ⟨p, l, G2, ds, d, e.w, by rw [List.append_nil]; exact da, hd, fun v G3 H3 e3 dd => k v d G3 H3 (e.trans W e3) dd hφ⟩
theorem zip_both {α β : Type} : ∀ {as : List α} {bs : List β}, as.length = bs.length → (as.zip bs).map Prod.fst = as ∧ (as.zip bs).map Prod.snd = bs
  | [], [], _ => ⟨rfl, rfl⟩
  | a :: as, b :: bs, h => by
    obtain ⟨x, y⟩ := zip_both (as := as) (bs := bs) (by simpa using h)
    exact ⟨by rw [List.zip_cons_cons, List.map_cons, x], by rw [List.zip_cons_cons, List.map_cons, y]⟩
  | [], _ :: _, h => by cases h
  | _ :: _, [], h => by cases h
theorem da_in : ∀ {vs : List V} {ds : List PyData}, DaAll K G vs ds → ∀ z ∈ vs.zip ds, Da K G z.1 z.2 ∧ z.2 ∈ ds
  | _, _, .nil, z, m => absurd m List.not_mem_nil
  | _, _, .cons h t, z, m => by
    rw [List.zip_cons_cons] at m
    rcases List.mem_cons.mp m with rfl | m
    · exact ⟨h, List.mem_cons_self⟩
    · obtain ⟨a, b⟩ := da_in t z m
      exact ⟨a, List.mem_cons_of_mem _ b⟩
theorem td_shufF {i : Nat} {fs : List Fn} (hl : fs.length ≤ 100) (hs : ∀ f ∈ fs, Shp (fnD f)) (ha : TX K p l σ G ta (.list (fs.map fnD))) (hd : σ[i]? = some (some (.ref p))) : TD K p l σ G (tCall (spShuf K) [] E0 (tCons (tVar i) (tCons ta tNil))) (fun d => ∃ ds, d = .list ds ∧ ∃ gs : List Fn, ds = gs.map fnD ∧ gs.Perm fs) := fun G1 H Q W s k =>
  ⟨_, hd, ha G1 H _ W s fun v d G2 H2 e da f => by
    subst f
    cases da with
    | @lst a xs _ t1 a1 =>
    have lx := a1.length
    obtain ⟨z1, z2⟩ := zip_both lx
    refine ⟨p, l, G2, a, xs.zip (fs.map fnD), rfl, e.w, .inl (SqL.of (by rw [z1]; exact e.w.same _ _ t1)), by rw [List.length_zip, lx, List.length_map]; omega, fun z m => ?_, fun r ys G4 H4 e4 r4 r0 gr pm => ?_⟩
    · obtain ⟨q1, q2⟩ := da_in a1 z m
      obtain ⟨f, mf, ef⟩ := List.mem_map.mp q2
      exact ⟨q1, by rw [← ef]; exact hs f mf⟩
    have dz : DaAll K G4 (ys.map Prod.fst) (ys.map Prod.snd) := da_zip fun z m => ((da_in a1 z (pm.mem_iff.mp m)).1).mono e4.sub
    have pd := pm.map Prod.snd
    rw [z2] at pd
    obtain ⟨gs, eg, pg⟩ := perm_map_inv (f := fnD) pd fs rfl
    have nrp := e.w.np r0
    have nrl := e.w.nl r0
    obtain ⟨w9, s9⟩ := e4.w.hold nrp nrl gr r4
    have E9 : Ext p l G2 H2 (upd G4 r (.lst (ys.map Prod.fst))) H4 := ⟨w9, e4.sub.trans s9, e4.keep, fun b o q g => by
      have nb : b ≠ r := fun e => by rw [e, r0] at q; cases q
      rw [upd_ne nb]
      exact e4.new b o q g⟩
    exact k _ _ _ _ (e.trans W E9) (.lst upd_same (dz.mono s9)) ⟨_, rfl, gs, eg, pg⟩⟩
end
theorem rz_ok {way : List Int} {due : Cells} {z : Nat} (hw : ∀ x ∈ way, 0 ≤ x ∧ x ≤ 45) (lw : way.length ≤ 9) (hd : DueOk due) (hz : z ≤ 100) : Okd 10 1000000 (resD (.fault "bad" way due z)) := by
  have h1 : Okd 2 17310 (wayD way) := (Okd.tup (k := 0) (n := 1921) (m := 9) (fun d m => by
    obtain ⟨q, mq, rfl⟩ := List.mem_map.mp m
    exact okd_int ⟨(hw q mq).1, Int.lt_of_le_of_lt (hw q mq).2 (by decide +kernel)⟩) (by rw [List.length_map]; exact lw) (N := 17310) (by decide)).mono (by decide) (by decide)
  have h2 : Okd 2 12000 (cellsD due) := by
    rcases hd with rfl | rfl | rfl
    all_goals exact ⟨by decide +kernel, by decide +kernel, by decide +kernel⟩
  have h3 : Okd 2 1921 (.int (z : Int)) := (okd_int ⟨by omega, Int.lt_of_le_of_lt (b := 100) (by omega) (by decide +kernel)⟩).mono (by decide) (by decide)
  have wd : ∀ x : Str, okB (.str x) = true → siz (.str x) ≤ 90 → Okd 2 90 (.str x) := fun x a b => ⟨a, Nat.zero_le _, b⟩
  exact Okd.mono (okd_tupL (k := 2) (ns := [90, 90, 17310, 12000, 1921]) (.cons (wd "fault" (by decide +kernel) (by decide +kernel)) (.cons (wd "bad" (by decide +kernel) (by decide +kernel)) (.cons h1 (.cons h2 (.cons h3 .nil))))) 40000 (by decide)) (by decide) (by decide)
theorem ifs_not_call {K : PySem.W.Frag} {sp : Sp} {ta : TA} {a b : TS} {D : Ends} {σ : St} {H : Hp} (h : ta σ H fun vs H1 => sp (vs ++ []) H1 (fun v H2 => ∃ k, v = .bl k ∧ if (!k) = true then a D σ H2 else b D σ H2) E0) : tIfS (tNot (tB (tCall sp [] E0 ta))) a b D σ H := h
theorem tx_mul2 {K : PySem.W.Frag} {p l : Addr} {σ : St} {G : Hp} {ta tb : TE} {i j : Int} (ha : TX K p l σ G ta (.int i)) (hb : TX K p l σ G tb (.int j)) (hc : CMul i j) : TX K p l σ G (tOp (rI CMul fun i j => .int (i * j)) ta tb) (.int (i * j)) := fun G1 H Q W s k =>
  ha G1 H _ W s fun v d G2 H2 e da f => hb G2 H2 _ e.w (s.trans e.sub) fun u d2 G3 H3 e3 da3 f3 => by
    subst f f3
    cases da
    cases da3
    exact ⟨_, _, rfl, rfl, hc, k _ _ _ _ (e.trans W e3) (.int _) rfl⟩
section
variable {P : Program} {w : World} {K : PySem.W.Frag} {mg : Str → Option Value} {base : Heap} {C CG CR : Addr}
theorem D_law (T : Txt K mg) (S : FrS K mg C) (SG : GrS K mg CG) : DfS P w K mg base 15 "law" s_law ["script"] (spLaw K) := by
  have D_l_stock := (D_stock (P := P) (w := w) (base := base) T).mono (k := 14) (by decide)
  have D_l_wrong := (D_wrong (P := P) (w := w) (base := base) T).mono (k := 14) (by decide)
  have D_l_around := (D_around (P := P) (w := w) (base := base) T).mono (k := 14) (by decide)
  have D_l_plain := (D_lplain (P := P) (w := w) (base := base) T).mono (k := 14) (by decide)
  have D_l_shuffled := (D_l_shuffled (P := P) (w := w) (base := base) T).mono (k := 14) (by decide)
  have D_l_draw := (D_draw (P := P) (w := w) (base := base) T).mono (k := 14) (by decide)
  have D_l_is_told := (D_told (P := P) (w := w) (base := base) T S SG).mono (k := 14) (by decide)
  have D_l_is_refused := (D_refused (P := P) (w := w) (base := base) T).mono (k := 14) (by decide)
  have D_run := (D_run (P := P) (w := w) (base := base) T S SG).mono (k := 14) (by decide)
  obtain ⟨f, fd, Sd⟩ := T.d_law
  refine DfS.mk' (k := 14) Sd sc_law (fun vs H Q E h => ?_) (fun cdv A outer s H vs Q E hgd hr h => ?_)
  · obtain ⟨a, ns, rfl, _⟩ := h
    rfl
  · obtain ⟨a, ns, rfl, hsq, hns, kk⟩ := h
    refine ⟨_, (pss_cons (ps_par (i := 1) (j := 2) (by rfl) sc_law.nd rfl rfl (by decide) rfl rfl (pa_cons (pe_d D_l_stock hgd hr (pa_cons (pv 0) pa_nil)) (pa_cons (pe_tup pa_nil) pa_nil)) (by rfl))
      (pss_cons (ps_for PassesOwn.never rfl (pi_range1 rfl T.b_range (pa_cons pe_int pa_nil)) (pg_name (i := 3) sc_law.nd rfl (.inl rfl))
      (pss_cons (ps_asg (pe_d D_l_wrong hgd hr (pa_cons (pv 1) (pa_cons (pv 3) pa_nil))) (pg_tup rfl (pgs_cons (pg_name (i := 4) sc_law.nd rfl (.inl rfl)) (pgs_cons (pg_name (i := 5) sc_law.nd rfl (.inl rfl)) pgs_nil))))
      (pss_cons (ps_asg (pe_d D_l_around hgd hr (pa_cons (pv 1) (pa_cons (pv 4) pa_nil))) (pg_tup rfl (pgs_cons (pg_name (i := 6) sc_law.nd rfl (.inl rfl)) (pgs_cons (pg_name (i := 7) sc_law.nd rfl (.inl rfl)) (pgs_cons (pg_name (i := 8) sc_law.nd rfl (.inl rfl)) pgs_nil)))))
      (pss_cons (ps_set (i := 9) sc_law.nd rfl (.inl rfl) (pe_d D_l_plain hgd hr (pa_cons pe_str (pa_cons (pe_tup (pa_cons pe_str pa_nil)) (pa_cons (pe_tup (pa_cons pe_str (pa_cons pe_str pa_nil))) (pa_cons (pe_op op_catA (pv 6) (pe_op op_repZ (pe_tup (pa_cons (pe_tup (pa_cons pe_str (pa_cons pe_str (pa_cons pe_str pa_nil)))) pa_nil)) (pe_d D_l_draw hgd hr (pa_cons (pv 1) (pa_cons pe_int pa_nil))))) pa_nil))))))
      (pss_cons (ps_set (i := 10) sc_law.nd rfl (.inl rfl) (pe_tup (pa_cons (pe_tup (pa_cons pe_str (pa_cons pe_str (pa_cons pe_str pa_nil)))) (pa_cons (pe_tup (pa_cons pe_str (pa_cons pe_str (pa_cons pe_str (pa_cons (pe_tup (pa_cons pe_str pa_nil)) (pa_cons (pe_tup pa_nil) pa_nil)))))) (pa_cons (pe_tup (pa_cons pe_str (pa_cons pe_str pa_nil))) pa_nil)))))
      (pss_cons (ps_set (i := 11) sc_law.nd rfl (.inl rfl) (pe_d D_l_plain hgd hr (pa_cons pe_str (pa_cons (pe_tup (pa_cons pe_str pa_nil)) (pa_cons (pe_tup (pa_cons pe_str pa_nil)) (pa_cons (pv 10) pa_nil))))))
      (pss_cons (ps_set (i := 12) sc_law.nd rfl (.inl rfl) (pe_d D_l_draw hgd hr (pa_cons (pv 1) (pa_cons pe_int pa_nil))))
      (pss_cons (ps_set (i := 13) sc_law.nd rfl (.inl rfl) (pe_d D_l_plain hgd hr (pa_cons pe_str (pa_cons (pe_tup (pa_cons pe_str pa_nil)) (pa_cons (pe_tup (pa_cons pe_str pa_nil)) (pa_cons (pe_tup (pa_cons (pe_tup (pa_cons pe_str (pa_cons pe_str (pa_cons (pe_ifExp (pt_cmpR op_eq (pv 12) pe_int (nomark _)) pe_str pe_str) (pa_cons (pe_tup (pa_cons pe_str pa_nil)) (pa_cons (pe_tup pa_nil) pa_nil)))))) (pa_cons (pe_tup (pa_cons pe_str (pa_cons pe_str pa_nil))) pa_nil))) pa_nil))))))
      (pss_cons (ps_set (i := 2) sc_law.nd rfl (.inl rfl) (pe_callTy call_tuple_of (by rfl) T.b_tuple (by decide +kernel) (pa_cons (pe_d D_l_shuffled hgd hr (pa_cons (pv 1) (pa_cons (pe_lst (pa_cons (pv 9) (pa_cons (pv 11) (pa_cons (pv 13) pa_nil)))) pa_nil))) pa_nil)))
      (pss_cons (ps_if (pt_not (pt_val (pe_d D_l_is_told hgd hr (pa_cons (pv 2) (pa_cons (pv 7) (pa_cons (pe_op op_add (pe_op op_add (pv 8) pe_int) (pe_op op_mul pe_int (pv 12))) (pa_cons (pv 5) (pa_cons (pe_cmpR op_eq (pv 3) pe_int (nomark _)) pa_nil)))))))) (pss_one (ps_ret pe_bl)) pss_nil)
      (pss_cons (ps_set (i := 14) sc_law.nd rfl (.inl rfl) (pe_d D_run hgd hr (pa_cons (pv 2) (pa_cons pe_str (pa_cons (pe_tup (pa_cons pe_int pa_nil)) (pa_cons (pe_tupP (pa_cons (pe_tup (pa_cons pe_int (pa_cons pe_int pa_nil))) pa_nil)) (pa_cons (pe_tup pa_nil) (pa_cons (pe_op op_add (pv 8) pe_int) pa_nil))))))))
      (pss_one (ps_if (pt_cmpR op_ne (pe_callB (call_repr hgd hr.units) (by rfl) T.b_repr (by decide +kernel) (pa_cons (pv 14) pa_nil)) (pe_callB (call_repr hgd hr.units) (by rfl) T.b_repr (by decide +kernel) (pa_cons (pe_tup (pa_cons pe_str (pa_cons pe_str (pa_cons (pv 7) (pa_cons (pv 5) (pa_cons (pe_op op_add (pv 8) pe_int) pa_nil)))))) pa_nil)) (nomark _)) (pss_one (ps_ret pe_bl)) pss_nil)))))))))))))
      (pss_cons (ps_for PassesOwn.never rfl (pi_tup (pe_tup (pa_cons pe_str (pa_cons pe_str (pa_cons pe_str pa_nil))))) (pg_name (i := 15) sc_law.nd rfl (.inl rfl))
      (pss_one (ps_if (pt_not (pt_val (pe_d D_l_is_refused hgd hr (pa_cons (pv 2) (pa_cons (pv 15) pa_nil))))) (pss_one (ps_ret pe_bl)) pss_nil)))
      (pss_one (ps_ret pe_bl))))), ?_⟩
    have big : (1000000 : Nat) ≤ sizeLine := by decide
    refine seq_of (par_2 ?_)
    refine ⟨_, rfl, a, ns, rfl, hsq, hns, fun p l G1 H1 W1 => ?_⟩
    refine ⟨Nat.zero_le _, fun q0 hq0 => ?_⟩
    have W1 := (W1.tmp (o := .tup []) hq0).w
    generalize upd H1 q0 (.tup []) = H1 at W1 ⊢
    refine ⟨_, _, rfl, ?_⟩
    dsimp only [gName, List.set]
    refine ⟨5, rfl, by decide, by decide, for_range (lo := 0) (n := 5) (fun i σ H2 => ∃ o2 o3 o4 o5 o6 o7 o8 o9 o10 o11 o12 o13 o14 o15, σ = [some (.ref a), some (.ref p), o2, o3, o4, o5, o6, o7, o8, o9, o10, o11, o12, o13, o14, o15] ∧ ∃ G2, Wd p l G2 H2 ∧ (i ≠ 0 → ∃ (vp : V) (own : List Ss) (m far : Nat) (gs : List Fn), o2 = some vp ∧ Da K G2 vp (.tuple (gs.map fnD)) ∧ Three own m far gs))
      ⟨_, _, _, _, _, _, _, _, _, _, _, _, _, _, rfl, _, W1, fun h => absurd rfl h⟩ ?_ ?_⟩
    rotate_left 1
    · rintro σ H2 ⟨o2, o3, o4, o5, o6, o7, o8, o9, o10, o11, o12, o13, o14, o15, rfl, G2, W2, hp⟩
      obtain ⟨vp, own, m, far, gs, rfl, dvp, th⟩ := hp (by decide)
      refine seq_of (tfor_tup (K := K) (ds := [.str "stop", .str "goes", .str "zz"]) (tx_tupR (tx_cons tx_str (tx_cons tx_str (tx_cons tx_str tx_nil)))) W2 (fun Gb σ Hx => ∃ o15 G9, σ = [some (.ref a), some (.ref p), some vp, o3, o4, o5, o6, o7, o8, o9, o10, o11, o12, o13, o14, o15] ∧ Wd p l G9 Hx ∧ Same Gb G9) (fun G9 H9 e9 => ⟨_, G9, rfl, e9.w, Same.refl _⟩) (fun Gb σ Hx ⟨_, G9, _, w, s⟩ => s.trans w.same) ?_ ?_)
      · rintro Gb d x σ H9 s2b md ddx ⟨o15, G9, rfl, W9, sb9⟩
        dsimp only [gName, List.set]
        have hx : ∃ nm : Str, d = .str nm ∧ nm ∉ gs.map (·.name) ∧ Okd 60 16000000 (.str nm) := by
          have key : ∀ nm : Str, nm ≠ "bad" → nm ≠ "mid" → nm ≠ "go" → nm ∉ gs.map (·.name) := fun nm a b c m => by
            rcases th.nm nm m with h | h | h
            · exact a h
            · exact b h
            · exact c h
          rcases List.mem_cons.mp md with rfl | md
          · exact ⟨_, rfl, key _ (by decide +kernel) (by decide +kernel) (by decide +kernel), ⟨by decide +kernel, Nat.zero_le _, by decide +kernel⟩⟩
          rcases List.mem_cons.mp md with rfl | md
          · exact ⟨_, rfl, key _ (by decide +kernel) (by decide +kernel) (by decide +kernel), ⟨by decide +kernel, Nat.zero_le _, by decide +kernel⟩⟩
          · rw [List.mem_singleton.mp md]
            exact ⟨_, rfl, key _ (by decide +kernel) (by decide +kernel) (by decide +kernel), ⟨by decide +kernel, Nat.zero_le _, by decide +kernel⟩⟩
        obtain ⟨nm, rfl, hnot, hok⟩ := hx
        cases ddx
        refine ⟨_, rfl, _, rfl, p, l, G9, vp, nm, gs, rfl, W9, dvp.mono (s2b.trans sb9), th.nd, by rw [th.ln]; decide, hnot, hok, fun Gc Hc ec => ⟨true, rfl, if_no rfl ⟨_, Gc, rfl, ec.w, sb9.trans ec.sub⟩⟩⟩
      · rintro Gb σ H9 s2b ⟨o15, G9, rfl, W9, sb9⟩
        exact kk _
    rintro i σ H2 hi ⟨o2, o3, o4, o5, o6, o7, o8, o9, o10, o11, o12, o13, o14, o15, rfl, G2, W2, _⟩
    dsimp only [gName, List.set]
    have Lw : TD K p l [some (.ref a), some (.ref p), o2, some (.int (0 + (i : Int))), o4, o5, o6, o7, o8, o9, o10, o11, o12, o13, o14, o15] G2 (tCall (spWrong K) [] E0 (tCons (tVar 1) (tCons (tVar 3) tNil))) (fun d => ∃ own due, d = .tuple [.tuple (slD own), cellsD due] ∧ WrongOk own due) :=
      td_call (tds_consP (td_is rfl (.int _)) tds_nilP) (fun ds h => by
        obtain ⟨_, _, rfl, e1, rfl⟩ := h
        rw [e1]
        exact ⟨_, rfl, by omega, by omega⟩) rfl
    refine seq_of (Lw.asgG W2 fun tv d G3 H3 e3 dtv ⟨own0, due, ed, hw⟩ => ?_)
    subst ed
    obtain ⟨ta, ts, rfl, sqt, dts⟩ := dtv.tupI
    obtain ⟨rv, dv, rfl, drv, ddv⟩ := dts.two
    refine ⟨ta, _, rfl, sameT e3.w.same sqt, rfl, _, _, rfl, _, _, rfl, rfl, ?_⟩
    dsimp only [gName, List.set]
    have La : TD K p l [some (.ref a), some (.ref p), o2, some (.int (0 + (i : Int))), some rv, some dv, o6, o7, o8, o9, o10, o11, o12, o13, o14, o15] G3 (tCall (spAround K) [] E0 (tCons (tVar 1) (tCons (tVar 4) tNil))) (fun d => ∃ (own : List Ss) (way : List Int) (steps n : Nat), d = .tuple [.tuple (slD own), wayD way, .int (steps : Int)] ∧ n ≤ 4 ∧ AroundOk n own way steps due) :=
      td_call2 (α := List Ss × Cells) (i := 1) (Ψ := fun x ds => ds = [.tuple (slD x.1)] ∧ WrongOk x.1 x.2) (φ := fun x d => ∃ (own : List Ss) (way : List Int) (steps n : Nat), d = .tuple [.tuple (slD own), wayD way, .int (steps : Int)] ∧ n ≤ 4 ∧ AroundOk n own way steps x.2) (own0, due) (tds_consP (td_is rfl drv) tds_nilP) (fun ds h => by
        obtain ⟨_, _, rfl, e1, rfl⟩ := h
        rw [e1]
        exact ⟨rfl, hw⟩) rfl
    refine seq_of (La.asgG e3.w fun tv d G4 H4 e4 dtv ⟨own, way, steps, n, ed, hn, ar⟩ => ?_)
    subst ed
    obtain ⟨tb, ts, rfl, sqt2, dts⟩ := dtv.tupI
    obtain ⟨ov, wv, sv, rfl, dov, dwv, dsv⟩ := dts.three
    cases dsv
    refine ⟨tb, _, rfl, sameT e4.w.same sqt2, rfl, _, _, rfl, _, _, rfl, _, _, rfl, rfl, ?_⟩
    dsimp only [gName, List.set]
    have ddv := ddv.mono e4.sub
    have E4 := e4
    obtain ⟨hits, ok, hway, lway, lst⟩ := ar
    have hdue : DueOk due := by
      obtain ⟨_, _, _, _, _, h⟩ := hw
      exact h
    have str : ∀ {σ' : St} {G' : Hp} {x : Str}, TX K p l σ' G' (tTup (tCons (tC (.str x)) tNil)) (.tuple ([x].map .str)) := tx_tupR (tx_cons tx_str tx_nil)
    have Lbad : TD K p l [some (.ref a), some (.ref p), o2, some (.int (0 + (i : Int))), some rv, some dv, some ov, some wv, some (.int (steps : Int)), o9, o10, o11, o12, o13, o14, o15] G4 (tCall (spPlainF K) [] E0 (tCons (tC (.str "bad")) (tCons (tTup (tCons (tC (.str "q")) tNil)) (tCons (tTup (tCons (tC (.str "a")) (tCons (tC (.str "b")) tNil))) (tCons (tOp (rCatA K) (tVar 6) (tOp (rRepZ K) (tTup (tCons (tTup (tCons (tC (.str "set")) (tCons (tC (.str "result")) (tCons (tC (.str "q")) tNil)))) tNil)) (tCall spDraw [] E0 (tCons (tVar 1) (tCons (tC (.int 2)) tNil))))) tNil))))) (fun d => ∃ m : Nat, m ≤ 1 ∧ d = fnD (badF own m)) := by
      refine td_callF (tds_consP (φ := fun x => x = .str "bad") tx_str (tds_consP (φ := fun x => x = .tuple ((["q"] : List Str).map .str)) str (tds_consP (φ := fun x => x = .tuple ((["a", "b"] : List Str).map .str)) tx_op2 (tds_consP (φ := fun x => ∃ m : Nat, m ≤ 1 ∧ x = .tuple (slD (own ++ ops (more m)))) (td_catX (td_is rfl dov) (td_repZ (tx_tupR (tx_cons tx_op3 tx_nil)) rfl (by decide) (by decide)) fun d h => ?_) tds_nilP)))) fun ds h => ?_
      · obtain ⟨k, hk, rfl⟩ := h
        refine ⟨_, rfl, ?_, k, by omega, ?_⟩
        · have := ok.ln
          rw [List.length_replicate, slD_map, List.length_map]
          omega
        · congr 1
          rw [slD_map (_ ++ _), List.map_append, ← slD_map, ← slD_map, slD_ops, more, List.map_replicate]
          rfl
      · obtain ⟨_, _, rfl, e1, _, _, rfl, e2, _, _, rfl, e3, _, _, rfl, ⟨m, hm, e4⟩, rfl⟩ := h
        rw [e1, e2, e3, e4]
        exact ⟨_, ⟨"bad", ["q"], ["a", "b"], own ++ ops (more m), rfl, rfl⟩, m, hm, rfl⟩
    refine seq_of (Lbad.asg e4.w fun bv d G5 H5 e5 dbv ⟨m, hm, ed⟩ => ?_)
    subst ed
    dsimp only [gName, List.set]
    refine seq_of (TD.asg (K := K) (p := p) (l := l) (G := G5) (φ := fun d => d = .tuple (slD bodyM)) (tx_to (tx_tupR (tx_cons tx_op3 (tx_cons (tx_tupR (tx_cons tx_str (tx_cons tx_str (tx_cons tx_str (tx_cons str (tx_cons (tx_tupR tx_nil) tx_nil)))))) (tx_cons tx_op2 tx_nil)))) rfl) e5.w fun yv d G6 H6 e6 dyv ed => ?_)
    subst ed
    dsimp only [gName, List.set]
    refine seq_of (TD.asg (K := K) (p := p) (l := l) (G := G6) (φ := fun d => d = fnD midF) (tx_call (tx_cons tx_str (tx_cons str (tx_cons str (tx_cons (td_is rfl dyv) tx_nil)))) ⟨"mid", ["q"], ["x"], bodyM, rfl, rfl⟩) e6.w fun mv d G7 H7 e7 dmv ed => ?_)
    subst ed
    dsimp only [gName, List.set]
    refine ⟨_, rfl, p, l, G7, 2, rfl, by decide, by decide, e7.w, fun far H8 f0 f1 e8 => ?_⟩
    obtain ⟨fr, rfl⟩ : ∃ fr : Nat, far = (fr : Int) := ⟨far.toNat, by omega⟩
    have hfr : fr < 2 := by omega
    dsimp only [gName, List.set]
    have two : ∀ {σ' : St} {G' : Hp}, σ'[12]? = some (some (.int (fr : Int))) → TTx K p l σ' G' (tTest (tOp rEq (tVar 12) (tC (.int 1)))) (decide ((fr : Int) = 1)) := fun h => ttx_eqI (td_is h (.int _)) tx_int
    have word : ∀ {σ' : St} {G' : Hp}, σ'[12]? = some (some (.int (fr : Int))) → TX K p l σ' G' (tIf (tTest (tOp rEq (tVar 12) (tC (.int 1)))) (tC (.str "mid")) (tC (.str "bad"))) (.str (callee fr)) := fun h G1 H Q W s k => two h G1 H _ W s fun G9 H9 e9 => by
      obtain rfl | rfl : fr = 0 ∨ fr = 1 := by omega
      · exact if_no rfl (k _ _ _ _ e9 (.str _) rfl)
      · exact if_yes rfl (k _ _ _ _ e9 (.str _) rfl)
    refine seq_of (TD.asg (K := K) (p := p) (l := l) (G := G7) (φ := fun d => d = fnD (goF28 fr)) (tx_call (tx_cons tx_str (tx_cons str (tx_cons str (tx_cons (tx_tupR (tx_cons (tx_tupR (tx_cons tx_str (tx_cons tx_str (tx_cons (word rfl) (tx_cons str (tx_cons (tx_tupR tx_nil) tx_nil)))))) (tx_cons tx_op2 tx_nil))) tx_nil)))) ⟨"go", ["p"], ["c"], [.call "c" (callee fr) ["p"] (.tuple []), .op (.free "p")], rfl, rfl⟩) e8.w fun gv d G9 H9 e9 dgv ed => ?_)
    subst ed
    dsimp only [gName, List.set]
    have s59 := (e6.sub.trans e7.sub).trans e9.sub
    have s79 := e9.sub
    have Lp : TD K p l [some (.ref a), some (.ref p), o2, some (.int (0 + (i : Int))), some rv, some dv, some ov, some wv, some (.int (steps : Int)), some bv, some yv, some mv, some (.int (fr : Int)), some gv, o14, o15] G9 (tCB (rTpOf K) (tCons (tCall (spShuf K) [] E0 (tCons (tVar 1) (tCons (tLst (tCons (tVar 9) (tCons (tVar 11) (tCons (tVar 13) tNil)))) tNil))) tNil)) (fun d => ∃ ds, d = .tuple ds ∧ ∃ gs : List Fn, ds = gs.map fnD ∧ gs.Perm [badF own m, midF, goF28 fr]) :=
      td_tupX (td_shufF (fs := [badF own m, midF, goF28 fr]) (show 3 ≤ 100 by decide) (fun f mf => (three_shp ok hn hm hfr f mf).2) (tx_lst (tx_cons (td_is rfl (dbv.mono s59)) (tx_cons (td_is rfl (dmv.mono s79)) (tx_cons (td_is rfl dgv) tx_nil))) (show 3 ≤ sizeLine by decide)) rfl)
    refine seq_of (Lp.asg e9.w fun vp d Ga Ha ea dvp ⟨ds, ed, gs, eg, pg⟩ => ?_)
    subst eg
    subst ed
    have th := three_ok ok hn hm hfr pg
    dsimp only [gName, List.set]
    have s4a := (e5.sub.trans s59).trans ea.sub
    have dwa := dwv.mono s4a
    have dda := ddv.mono s4a
    have hgo : GoOk gs (goF28 fr) way due (steps + 2 + 2 * fr) := ⟨th.nd, by rw [th.ln]; decide, th.fo, th.hg, rfl, fun lim hl => run_go hits hfr th.hb th.hm lim hl, by omega, by omega, th.sz, rz_ok hway (by omega) hdue (by omega)⟩
    refine seq_of (ifs_not_call (K := K) ?_)
    refine tcons_app (K := K) (G := Ga) (φ := fun x => x = .tuple (gs.map fnD)) (td_is rfl dvp) ea.w fun v1 d Gb Hb eb q1 ed => ?_
    subst ed
    refine tcons_app (K := K) (G := Gb) (φ := fun x => x = wayD way) (td_is rfl (dwa.mono eb.sub)) eb.w fun v2 d Gc Hc ec q2 ed => ?_
    subst ed
    refine tcons_app (K := K) (G := Gc) (φ := fun x => x = .int ((steps + 2 + 2 * fr : Nat) : Int)) (tx_to (tx_add (tx_add (td_is rfl (.int _)) tx_int) (tx_mul2 tx_int (td_is rfl (.int _)) (.inl (by decide)))) (by congr 1)) ec.w fun v3 d Gd Hd ed3 q3 ed => ?_
    subst ed
    cases q3
    refine tcons_app (K := K) (G := Gd) (φ := fun x => x = cellsD due) (td_is rfl (((dda.mono eb.sub).mono ec.sub).mono ed3.sub)) ed3.w fun v4 d Ge He ee q4 ed => ?_
    subst ed
    refine tcons_app (K := K) (G := Ge) (φ := fun x => x = .bool (decide (0 + (i : Int) = 2))) (tx_eqI (td_is rfl (.int _)) tx_int) ee.w fun v5 d Gf Hf ef q5 ed => ?_
    subst ed
    cases q5
    have sbf := ((ec.sub.trans ed3.sub).trans ee.sub).trans ef.sub
    refine ⟨p, l, Gf, v1, v2, v4, _, gs, goF28 fr, way, due, _, rfl, ef.w, q1.mono sbf, q2.mono ((ed3.sub.trans ee.sub).trans ef.sub), q4.mono ef.sub, hgo, fun Gg Hg eg => ⟨true, rfl, if_no rfl ?_⟩⟩
    dsimp only [tNext]
    have sag := (eb.sub.trans sbf).trans eg.sub
    have dvg := dvp.mono sag
    have er := run_bad (fs := gs) (m := m) hits ((steps + 1 : Nat) : Int) (Int.le_refl _)
    refine seq_of (TD.asg (K := K) (p := p) (l := l) (G := Gg) (φ := fun d => d = resD (.fault "bad" way due ((steps + 1 : Nat) : Int))) (tx_to (tx_runS (vals := [6]) (cs := []) (cells := [(5, 0)]) (lim := ((steps + 1 : Nat) : Int)) (td_is rfl dvg) tx_str (tx_tupR (tx_cons tx_int tx_nil)) tpl_one (tx_tupR tx_nil) (tx_to (tx_add (td_is rfl (.int _)) tx_int) (by congr 1)) th.nd (by rw [th.ln]; decide) th.fo th.hb rfl (by simp) (by decide) (by decide) (by simp) (by omega) (by omega)) (by rw [er])) eg.w fun tv d Gh Hh eh dtv ed => ?_)
    subst ed
    dsimp only [gName, List.set]
    have okr : Okd 60 16000000 (resD (.fault "bad" way due ((steps + 1 : Nat) : Int))) := (rz_ok hway (by omega) hdue (by omega)).mono (by decide) (by decide)
    have sah := sag.trans eh.sub
    refine ttx_no (K := K) (ttx_neS (tx_repr (td_is rfl dtv) okr) (tx_repr (tx_tupR (tx_cons tx_str (tx_cons tx_str (tx_cons (td_is rfl (dwa.mono sah)) (tx_cons (td_is rfl (dda.mono sah)) (tx_cons (tx_to (tx_add (td_is rfl (.int _)) tx_int) (by congr 1)) tx_nil)))))) okr)) ?_ eh.w fun Gi Hi ei => ?_
    · show (!decide ((resD (.fault "bad" way due ((steps + 1 : Nat) : Int))).shown = (resD (.fault "bad" way due ((steps + 1 : Nat) : Int))).shown)) = false
      rw [decide_eq_true rfl]
      rfl
    exact ⟨_, _, _, _, _, _, _, _, _, _, _, _, _, _, rfl, Gi, ei.w, fun _ => ⟨vp, own, m, fr, gs, rfl, (dvg.mono eh.sub).mono ei.sub, th⟩⟩
end
end L2.Hx

/-! The end: the row from the promise of its def. -/
namespace L2.Hx
open PySem PySem.Spec PyProof.Rows
section
variable {P : Program} {w : World} {K : PySem.W.Frag} {mg mb : Str → Option Value} {k : Nat} {f a : Addr} {fd : FuncData} {x : Str} {sp : Sp} {t0 : Shared} {us0 : List Value} {ns : List Int}
/-- what stands ahead of the call of the def -/
structure Ahead (K : PySem.W.Frag) (mg mb : Str → Option Value) (t0 : Shared) (a : Addr) (us0 : List Value) (ns : List Int) : Prop where
  kin : K.In t0.heap
  nsG : t0.heap.Ns mainGlobals mg
  nsB : t0.heap.Ns builtinsNs mb
  bb : ∀ y : Str, y ≠ "__name__" → mb y = bootBuiltins y
  lim : t0.heap.NoLimit
  gens : t0.gens = #[]
  obj : t0.heap.get? a = some { cls := .type "list", data := .seq us0.toArray }
  are : IntsAre us0 ns
  len : ns.length ≤ sizeLine
/-- what stands behind it -/
abbrev Done (t0 : Shared) : Result → Shared → Prop := fun r z => r = .ok (.ret (.bool true)) ∧ OldK t0.heap z.heap ∧ z.os = t0.os ∧ AllBare z.gens
/-- from a heap in which nothing but the script may be tracked -/
theorem Ahead.from_ {H : Hp} (Z : Ahead K mg mb t0 a us0 ns) (room : Room k callerA) (F : ∀ base : Heap, K.In base → base.Ns mainGlobals mg → FnG P w K mg base CX0 k f fd [x] sp) (bind : ∀ (s : Shared) (u : Value), BindsTo s fd ⟨[u], []⟩ [(x, u)])
    (hO : Only H) (prom : sp [.ref a] H (fun v _ => v = .bl true) fun _ _ _ => False) (ok0 : HOk P w H t0.heap) (alone : ∀ b, H b ≠ none → b = a) (notK : H a ≠ none → K.lookup a = none) :
    codeAny (model P w) callerA (.call (.ref f) ⟨[.ref a], []⟩) (Done t0) t0 := by
  have free : ∀ {b : Addr} {o : Obj} {es : Array DictEntry} {n : Nat}, t0.heap.get? b = some o → o.data = .dict es n → H b = none := fun {b o es n} e d => by
    rcases hO b with q | ⟨o2, xs, q⟩
    · exact q
    · have ea := alone b (by rw [q]; exact Option.some_ne_none _)
      rw [ea, Z.obj] at e
      cases e
      cases d
  have ns1 : ∀ {b : Addr} {m : Str → Option Value}, t0.heap.Ns b m → (hidT t0.heap H).Ns b m := fun {b m} z => by
    obtain ⟨o, es, n, e, d, r⟩ := z
    exact ⟨o, es, n, hidT_get e (free e d), d, r⟩
  have kin1 : K.In (hidT t0.heap H) := fun b o e => by
    refine hidT_get (Z.kin b o e) ?_
    rcases hO b with q | ⟨o2, xs, q⟩
    · exact q
    · have nn : H b ≠ none := by
        rw [q]
        exact Option.some_ne_none _
      have ea := alone b nn
      rw [ea] at nn e
      rw [notK nn] at e
      cases e
  have lim1 : (hidT t0.heap H).NoLimit := by
    obtain ⟨m, z1, z2⟩ := Z.lim
    exact ⟨m, ns1 z1, z2⟩
  have env : Env0 P w K mg (hidT t0.heap H) callerA [] t0 H :=
    ⟨rfl, ⟨kin1, ns1 Z.nsG, ⟨mb, ns1 Z.nsB, Z.bb⟩, lim1⟩, fun b o e => of_hidT e, Nat.le_of_eq (hidT_size _ _), trivial, fun b z => absurd (show b ∈ ([] : List Addr) from z) List.not_mem_nil, ok0, .of_eq Z.gens⟩
  refine codeAny_mono ((F _ kin1 (ns1 Z.nsG)).go callerA [] t0 H ⟨[.ref a], []⟩ [.ref a] [.ref a] _ _ rfl room env (bind t0 (.ref a)) (.cons rfl .nil) prom) fun r z h => ?_
  match r, h with
  | .ok (.ret u), h =>
    obtain ⟨v, H1, e1, e2, e3, e4, e5, e6⟩ := h
    have ev : v = .bl true := e6
    rw [ev] at e5
    have eu : u = Value.bool true := e5
    rw [eu]
    refine ⟨rfl, OldK.of_keep fun b o e => ?_, e1, e2⟩
    rcases hO b with q | ⟨o2, xs, q⟩
    · exact e3.keep b o e q (fun m => absurd (show b ∈ ([] : List Addr) from m) List.not_mem_nil) (by simp)
    · have q1 := e3.frzs b o2 _ q
      have g0 := (ok0 b _ q).1
      have g1 := (e4 b _ q1).1
      rw [e] at g0
      cases g0
      exact g1
theorem Ahead.call (Z : Ahead K mg mb t0 a us0 ns) (room : Room k callerA) (F : ∀ base : Heap, K.In base → base.Ns mainGlobals mg → FnG P w K mg base CX0 k f fd [x] sp) (bind : ∀ (s : Shared) (u : Value), BindsTo s fd ⟨[u], []⟩ [(x, u)])
    (prom : ∀ H : Hp, SqL K H a (ns.map V.int) → sp [.ref a] H (fun v _ => v = .bl true) fun _ _ _ => False) : codeAny (model P w) callerA (.call (.ref f) ⟨[.ref a], []⟩) (Done t0) t0 := by
  have vals := vals_ints Z.are
  have lens := Z.are.length
  cases own : K.lookup a with
  | some o =>
    have eo := Z.kin a o own
    rw [Z.obj] at eo
    cases eo
    refine Z.from_ (H := fun _ => none) room F bind (fun _ => .inl rfl) (prom _ (.inr ⟨_, us0.toArray, _, own, rfl, rfl, rfl, ?_, vals⟩)) (fun b u q => nomatch q) (fun b q => absurd rfl q) (fun q => absurd rfl q)
    rw [List.size_toArray, lens]
    exact Z.len
  | none =>
    refine Z.from_ (H := fun b => if b = a then some (.frz { cls := .type "list", data := .seq us0.toArray } (.lst (ns.map V.int))) else none) room F bind (fun b => ?_) (prom _ (.inl (.inr ⟨_, if_pos rfl⟩))) (fun b u q => ?_) (fun b q => ?_) (fun _ => own)
    · by_cases e : b = a
      · exact .inr ⟨_, _, if_pos e⟩
      · exact .inl (if_neg e)
    · by_cases e : b = a
      · have q1 := (if_pos e).symm.trans q
        cases q1
        rw [e]
        exact ⟨Z.obj, by rw [List.length_map]; exact Z.len, us0, _, vals, Z.obj⟩
      · have q1 := (if_neg e).symm.trans q
        cases q1
    · by_cases e : b = a
      · exact e
      · exact absurd (if_neg e) q
end
/-- the row's walk -/
theorem walkG {l : PySem.W.OpenLaw} {n k : Nat} {q : Program} {loose : List Str} {XP : (Str → Option Value) → Heap → Prop} {YP : World → Heap → Prop} {d : DefRec} {K : Params → PySem.W.Frag} {sp : PySem.W.Frag → Sp} {x : Str}
    (hn : l.most = some n) (hz : n ≤ sizeLine) (nodef : d.params.defaults = []) (room : Room k callerA) (hY : ∀ (w : World) (h : Heap), YP w h → (K w.params).In h)
    (F : ∀ (w : World) (mg : Str → Option Value) (f : Addr) (h : Heap), (K w.params).In h → h.Ns mainGlobals mg → mg d.name = some (.ref f) →
      ∃ fd : FuncData, (∀ (s : Shared) (u : Value), BindsTo s fd ⟨[u], []⟩ [(x, u)]) ∧ ∀ base : Heap, FnG l.prog w (K w.params) mg base CX0 k f fd [x] (sp (K w.params)))
    (prom : ∀ (K : PySem.W.Frag) (H : Hp) (a : Addr) (ns : List Int), ns.length ≤ n → SqL K H a (ns.map V.int) → sp K [.ref a] H (fun v _ => v = .bl true) fun _ _ _ => False) :
    PySem.W.WalkO q loose XP YP l.row.toRowW d [] (fun f vs => PySem.call f vs) := by
  refine Att.attach_call hn nodef fun w s0 t0 mg mb f o pm cd doc a us0 ns G Y _ _ _ here obj are len gens => ?_
  have kin := hY w _ Y
  obtain ⟨fd, b, FF⟩ := F w mg f _ kin G.T.g here
  have Z : Ahead (K w.params) mg mb t0 a us0 ns := ⟨kin, G.T.g, G.T.b, G.T.builtins, G.T.nolimit, gens, obj, are, Nat.le_trans len hz⟩
  exact Z.call room (fun base _ _ => FF base) b fun H hS => prom _ H a ns len hS
/-- a def of the top, where it stands -/
theorem src_of {K : PySem.W.Frag} {mg : Str → Option Value} {h : Heap} {x : Str} {st : Stmt} {ps : List Str} {f : Addr} {oc kV doc pm cdv ct : Value} {od an : Option Addr} {osl : Array (Option Value)} (X : K.In h) (G : h.Ns mainGlobals mg)
    (e1 : PySem.W.nsIn K mainGlobals x = some (some (.ref f))) (e2 : K.lookup f = some ⟨oc, od, .func (PySem.W.fnOf x x (defArgs st) (defBody st) (defScope st) .none kV doc pm an cdv ct), osl⟩) (e3 : PySem.W.codeIn K cdv x = true) (e4 : PySem.W.keepIn K (.ref f) = true)
    (hb : ∀ (kV doc pm : Value) (an : Option Addr) (cdv ct : Value) (us : List Value), us.length = ps.length → bindArgs (PySem.W.fnOf x x (defArgs st) (defBody st) (defScope st) .none kV doc pm an cdv ct) ⟨us, []⟩ = pure (ps.zip us)) : ∃ f fd, Src K mg x st ps f fd :=
  ⟨f, _, fun_mk e2 e3 e4, PySem.W.mg_of X G e1, (fun_mk e2 e3 e4).binds hb⟩
/-- a tuple of texts of the top -/
theorem tup_of {K : PySem.W.Frag} {mg : Str → Option Value} {h : Heap} {x : Str} {a : Addr} {ws : List Str} {o : Obj} {its : Array Value} {n : Nat} (X : K.In h) (G : h.Ns mainGlobals mg) (e1 : PySem.W.nsIn K mainGlobals x = some (some (.ref a))) (e2 : K.lookup a = some o)
    (e3 : o.cls = .type "tuple" ∧ o.data = .seq its n ∧ its.size ≤ sizeLine ∧ Vals (ws.map V.str) its.toList) : ∃ a, mg x = some (.ref a) ∧ ∀ H, SqT K H a (ws.map V.str) :=
  ⟨a, PySem.W.mg_of X G e1, fun H => .inr ⟨o, its, n, e2, e3.1, e3.2.1, e3.2.2.1, e3.2.2.2⟩⟩
theorem kit_refE {K : PySem.W.Frag} {C CH : Addr} (h1 : PySem.W.hasDictIn K CH = true) (h2 : PySem.W.typeIn K (.ref CH) = some (.type "type")) (h3 : PySem.W.subIn K (.ref C) (.ref CH) = some true) : PySem.W.kitOne K (.ref C) (.ref CH) = some true := by
  obtain ⟨cd, hc, _⟩ := PySem.W.any_some h1
  unfold PySem.W.kitOne
  split
  · rfl
  · show (if ((PySem.W.clsIn K CH).isSome && PySem.W.typeIn K (.ref CH) == some (.type "type")) = true then PySem.W.subIn K (.ref C) (.ref CH) else none) = some true
    have e : ((PySem.W.clsIn K CH).isSome && PySem.W.typeIn K (.ref CH) == some (.type "type")) = true := by rw [hc, h2] <;> rfl
    rw [if_pos e]
    exact h3
/-- an own error with a field, from the text -/
theorem fld_of {K : PySem.W.Frag} {mg : Str → Option Value} {h : Heap} {C CH f : Addr} {x fld qual : Str} {st : Stmt} {ps : List Str} {oc kV doc pm cdv ct : Value} {od an : Option Addr} {osl : Array (Option Value)} {nm q : Str} {N : Addr} {bs bm : List Value} {sn : List Str} {sub : List Value} {ab : Bool} {col : Option Bool} {dd : Option Addr} {k0 k1 k2 k3 k5 : Option Value}
    (X : K.In h) (G : h.Ns mainGlobals mg) (a1 : PySem.W.nsIn K mainGlobals x = some (some (.ref C))) (a2 : PySem.W.nsIn K mainGlobals "HeldError" = some (some (.ref CH)))
    (lk : K.lookup C = some (excClassObj nm q C N bs bm true sn sub ab col dd k0 k1 k2 k3 k5 "ValueError.__new__")) (rv : PySem.HandSPX.refsVE bm = true)
    (sa : PySem.W.findIn K (.ref C) "__setattr__" = some (some (.builtin "object.__setattr__"))) (x2 : PySem.W.keepIn K (.ref C) = true) (x3 : PySem.W.subIn K (.ref C) (.type "BaseException") = some true) (x4 : PySem.W.typeIn K (.ref C) = some (.type "type")) (x5 : PySem.W.hasDictIn K C = true) (x6 : PySem.W.subIn K (.ref C) (.ref C) = some true)
    (y1 : PySem.W.findIn K (.ref C) "__getattribute__" = some (some (.builtin "BaseException.__getattribute__"))) (y2 : PySem.W.findIn K (.ref C) "__getattr__" = some none) (y3 : PySem.W.findIn K (.ref C) "__class__" = some (some (.builtin "object.__class__")))
    (y4 : PySem.W.specialIn K (.builtin "object.__class__") "__get__" = some (some (.builtin "getset_descriptor.__get__"))) (y5 : PySem.W.takesIn K (.builtin "object.__class__") = some true) (y6 : PySem.W.mroIn K C (.type "object") = some true) (no : PySem.W.findIn K (.ref C) fld = some none)
    (z1 : PySem.W.hasDictIn K CH = true) (z2 : PySem.W.typeIn K (.ref CH) = some (.type "type")) (z3 : PySem.W.subIn K (.ref C) (.ref CH) = some true)
    (i1 : PySem.W.findIn K (.ref C) "__init__" = some (some (.ref f))) (i2 : PySem.W.typeIn K (.ref f) = some (.type "function")) (l : K.lookup f = some ⟨oc, od, .func (PySem.W.fnOf "__init__" qual (defArgs st) (defBody st) (defScope st) .none kV doc pm an cdv ct), osl⟩) (c : PySem.W.codeIn K cdv qual = true) (kf : PySem.W.keepIn K (.ref f) = true)
    (hb : ∀ (kV doc pm : Value) (an : Option Addr) (cdv ct : Value) (us : List Value), us.length = ps.length → bindArgs (PySem.W.fnOf "__init__" qual (defArgs st) (defBody st) (defScope st) .none kV doc pm an cdv ct) ⟨us, []⟩ = pure (ps.zip us)) :
    ∃ C CH f fd, OwnFld K mg x fld C ∧ mg "HeldError" = some (.ref CH) ∧ PySem.W.kitOne K (.ref C) (.ref CH) = some true ∧ SrcE K C qual st ps f fd :=
  ⟨C, CH, f, _, ⟨PySem.W.mg_of X G a1, ⟨⟨nm, q, N, bs, bm, sn, sub, ab, col, dd, k0, k1, k2, k3, k5, lk, rv⟩, sa, x3, x4, x2⟩, ⟨y1, y2, x3, x5⟩, ⟨y1, y2, x3, x5, y3, y4, y5, y6⟩, no, PySem.W.exm_ref x3 x5 x4 x6⟩, PySem.W.mg_of X G a2, kit_refE z1 z2 z3, fun_mk l c kf, i1, i2, (fun_mk l c kf).binds hb⟩
theorem da_walk {l : PySem.W.OpenLaw} {q : Program} {loose : List Str} {XP : (Str → Option Value) → Heap → Prop} {YP : World → Heap → Prop} {d : DefRec} {K : Params → PySem.W.Frag} (hn : l.most = some 63) (nodef : d.params.defaults = []) (nm : d.name = "law")
    (hY : ∀ (w : World) (h : Heap), YP w h → (K w.params).In h) (F : ∀ (w : World) (mg : Str → Option Value) (h : Heap), (K w.params).In h → h.Ns mainGlobals mg → Txt (K w.params) mg) : PySem.W.WalkO q loose XP YP l.row.toRowW d [] (fun f vs => PySem.call f vs) :=
  walkG (n := 63) (k := 15) (x := "script") (sp := spLaw) hn (by decide) nodef ⟨rfl, by decide, by decide⟩ hY (fun w mg f h kin G here => by
    have T := F w mg h kin G
    obtain ⟨f0, fd0, S0⟩ := T.d_law
    have e := S0.at_.symm.trans (nm ▸ here)
    cases e
    refine ⟨fd0, fun s u => ?_, fun base => ?_⟩
    · obtain ⟨oc, od, kV, doc, pm, an, cdv, ct, osl, rfl, _⟩ := S0.fn.ex
      exact .of_eq rfl
    · obtain ⟨CF, kf, fi, fm1, fm2⟩ := T.k_Frame
      obtain ⟨CG, kg, gi, gm1, gm2, gm3, gm4, gm5, gm6⟩ := T.k_Ground
      obtain ⟨f1, fd1, R, S1⟩ := D_law (P := l.prog) (w := w) (base := base) T ⟨kf, fi, fm1, fm2⟩ ⟨kg, gi, gm1, gm2, gm3, gm4, gm5, gm6⟩
      have e1 := S1.at_.symm.trans S0.at_
      cases e1
      have e2 : fd1 = fd0 := by
        obtain ⟨oc, od, kV, doc, pm, an, cdv, ct, osl, rfl, lk, _⟩ := S0.fn.ex
        obtain ⟨oc', od', kV', doc', pm', an', cdv', ct', osl', rfl, lk', _⟩ := S1.fn.ex
        rw [lk] at lk'
        cases lk'
        rfl
      rw [← e2]
      exact R) fun K H a ns hl hS => ⟨a, ns, rfl, hS, hl, fun _ => rfl⟩
end L2.Hx

open PySem PySem.W PyProof.Rows in
set_option maxRecDepth 100000 in
set_option maxHeartbeats 0 in
theorem PySem.Challenge.cw_heldapart_k28_faults_and_limits_holds : PySem.Challenge.rw_heldapart_k28_faults_and_limits.Holds := by
  w_on; o_law; k_head; (case hw => w_witness2)
  k_fill
  refine L2.Hx.da_walk (l := PySem.Challenge.rw_heldapart_k28_faults_and_limits) rfl rfl rfl (fun w h Y => PySem.W.kIn_of Y) ?F
  case F =>
    intro w mg h KX G
    have b_ValueError : mg "ValueError" = none := by
      refine PySem.W.mg_none_of KX G ?_
      k_is
    have b_dict : mg "dict" = none := by
      refine PySem.W.mg_none_of KX G ?_
      k_is
    have b_enumerate : mg "enumerate" = none := by
      refine PySem.W.mg_none_of KX G ?_
      k_is
    have b_int : mg "int" = none := by
      refine PySem.W.mg_none_of KX G ?_
      k_is
    have b_isinstance : mg "isinstance" = none := by
      refine PySem.W.mg_none_of KX G ?_
      k_is
    have b_len : mg "len" = none := by
      refine PySem.W.mg_none_of KX G ?_
      k_is
    have b_list : mg "list" = none := by
      refine PySem.W.mg_none_of KX G ?_
      k_is
    have b_range : mg "range" = none := by
      refine PySem.W.mg_none_of KX G ?_
      k_is
    have b_repr : mg "repr" = none := by
      refine PySem.W.mg_none_of KX G ?_
      k_is
    have b_sum : mg "sum" = none := by
      refine PySem.W.mg_none_of KX G ?_
      k_is
    have b_tuple : mg "tuple" = none := by
      refine PySem.W.mg_none_of KX G ?_
      k_is
    have b_zip : mg "zip" = none := by
      refine PySem.W.mg_none_of KX G ?_
      k_is
    have x_NoFunction : ∃ C CH f fd, L2.Hx.OwnFld (L2.KOf KX) mg "NoFunction" "name" C ∧ mg "HeldError" = some (.ref CH) ∧ PySem.W.kitOne (L2.KOf KX) (.ref C) (.ref CH) = some true ∧ L2.Hx.SrcE (L2.KOf KX) C "NoFunction.__init__" L2.Hx.s_NoFunction___init__ ["self", "name"] f fd := by
      dsimp only [L2.KOf]
      refine' L2.Hx.fld_of KX G ?a1_12 ?a2_12 ?lk_12 ?rv_12 ?sa_12 ?x2_12 ?x3_12 ?x4_12 ?x5_12 ?x6_12 ?y1_12 ?y2_12 ?y3_12 ?y4_12 ?y5_12 ?y6_12 ?no_12 ?z1_12 ?z2_12 ?z3_12 ?i1_12 ?i2_12 ?l_12 ?c_12 ?kf_12 (fun _ _ _ _ _ _ us hl => match us, hl with | [_, _], _ => rfl)
      (case a1_12 => k_is)
      (case a2_12 => k_is)
      (case lk_12 => k_is)
      (case rv_12 => first | rfl | decide +kernel)
      (case sa_12 => k_is)
      (case x2_12 => k_is)
      (case x3_12 => k_is)
      (case x4_12 => k_is)
      (case x5_12 => k_is)
      (case x6_12 => first | rfl | k_is)
      (case y1_12 => k_is)
      (case y2_12 => k_is)
      (case y3_12 => k_is)
      (case y4_12 => k_is)
      (case y5_12 => k_is)
      (case y6_12 => k_is)
      (case no_12 => k_is)
      (case z1_12 => k_is)
      (case z2_12 => k_is)
      (case z3_12 => k_is)
      (case i1_12 => k_is)
      (case i2_12 => k_is)
      (case l_12 => k_is)
      (case c_12 => k_is)
      (case kf_12 => k_is)
    have k_Frame : ∃ C, L2.Hx.ClsT (L2.KOf KX) mg "Frame" ["name", "goal", "worths", "todo"] C ∧ (∃ f fd, L2.Hx.SrcI (L2.KOf KX) C "Frame.__init__" L2.Hx.s_Frame___init__ ["self", "function", "args", "goal"] f fd) ∧ (∃ f fd, L2.Hx.SrcM (L2.KOf KX) C "begin" "Frame.begin" L2.Hx.s_Frame_begin ["self", "statements", "above"] f fd) ∧ (∃ f fd, L2.Hx.SrcM (L2.KOf KX) C "begin_inner" "Frame.begin_inner" L2.Hx.s_Frame_begin_inner ["self", "way", "statement", "holding"] f fd) := by
      dsimp only [L2.KOf]
      refine' ⟨_, L2.Hx.cls_of KX G ?aC_13 ?pg_13 ?hd_13 ?po_13 ?sa_13 (L2.Hx.NoAll.cons ?n0_13 (L2.Hx.NoAll.cons ?n1_13 (L2.Hx.NoAll.cons ?n2_13 (L2.Hx.NoAll.cons ?n3_13 L2.Hx.NoAll.nil)))), L2.Hx.srcI_of ?a0_13 ?i0_13 ?l0_13 ?c0_13 ?k0_13 ?m0_13 ?q0_13 (fun _ _ _ _ _ _ us hl => match us, hl with | [_, _, _, _], _ => rfl), L2.Hx.srcM_of ?a1_13 ?i1_13 ?l1_13 ?c1_13 ?k1_13 (fun _ _ _ _ _ _ us hl => match us, hl with | [_, _, _], _ => rfl), L2.Hx.srcM_of ?a2_13 ?i2_13 ?l2_13 ?c2_13 ?k2_13 (fun _ _ _ _ _ _ us hl => match us, hl with | [_, _, _, _], _ => rfl)⟩
      (case aC_13 => k_is)
      (case pg_13 => k_is)
      (case hd_13 => k_is)
      (case po_13 => k_is)
      (case sa_13 => k_is)
      (case n0_13 => k_is)
      (case n1_13 => k_is)
      (case n2_13 => k_is)
      (case n3_13 => k_is)
      (case a0_13 => k_is)
      (case i0_13 => k_is)
      (case l0_13 => k_is)
      (case c0_13 => k_is)
      (case k0_13 => k_is)
      (case m0_13 => k_is)
      (case q0_13 => k_is)
      (case a1_13 => k_is)
      (case i1_13 => k_is)
      (case l1_13 => k_is)
      (case c1_13 => k_is)
      (case k1_13 => k_is)
      (case a2_13 => k_is)
      (case i2_13 => k_is)
      (case l2_13 => k_is)
      (case c2_13 => k_is)
      (case k2_13 => k_is)
    have k_Ground : ∃ C, L2.Hx.ClsT (L2.KOf KX) mg "Ground" ["cells", "held", "choices", "chosen", "limit", "steps"] C ∧ (∃ f fd, L2.Hx.SrcI (L2.KOf KX) C "Ground.__init__" L2.Hx.s_Ground___init__ ["self", "heap", "choices", "limit"] f fd) ∧ (∃ f fd, L2.Hx.SrcM (L2.KOf KX) C "heap_now" "Ground.heap_now" L2.Hx.s_Ground_heap_now ["self"] f fd) ∧ (∃ f fd, L2.Hx.SrcM (L2.KOf KX) C "count_step" "Ground.count_step" L2.Hx.s_Ground_count_step ["self"] f fd) ∧ (∃ f fd, L2.Hx.SrcM (L2.KOf KX) C "choose" "Ground.choose" L2.Hx.s_Ground_choose ["self"] f fd) ∧ (∃ f fd, L2.Hx.SrcM (L2.KOf KX) C "make" "Ground.make" L2.Hx.s_Ground_make ["self", "value"] f fd) ∧ (∃ f fd, L2.Hx.SrcM (L2.KOf KX) C "held_below" "Ground.held_below" L2.Hx.s_Ground_held_below ["self", "choice"] f fd) ∧ (∃ f fd, L2.Hx.SrcM (L2.KOf KX) C "drop" "Ground.drop" L2.Hx.s_Ground_drop ["self", "address"] f fd) := by
      dsimp only [L2.KOf]
      refine' ⟨_, L2.Hx.cls_of KX G ?aC_14 ?pg_14 ?hd_14 ?po_14 ?sa_14 (L2.Hx.NoAll.cons ?n0_14 (L2.Hx.NoAll.cons ?n1_14 (L2.Hx.NoAll.cons ?n2_14 (L2.Hx.NoAll.cons ?n3_14 (L2.Hx.NoAll.cons ?n4_14 (L2.Hx.NoAll.cons ?n5_14 L2.Hx.NoAll.nil)))))), L2.Hx.srcI_of ?a0_14 ?i0_14 ?l0_14 ?c0_14 ?k0_14 ?m0_14 ?q0_14 (fun _ _ _ _ _ _ us hl => match us, hl with | [_, _, _, _], _ => rfl), L2.Hx.srcM_of ?a1_14 ?i1_14 ?l1_14 ?c1_14 ?k1_14 (fun _ _ _ _ _ _ us hl => match us, hl with | [_], _ => rfl), L2.Hx.srcM_of ?a2_14 ?i2_14 ?l2_14 ?c2_14 ?k2_14 (fun _ _ _ _ _ _ us hl => match us, hl with | [_], _ => rfl), L2.Hx.srcM_of ?a3_14 ?i3_14 ?l3_14 ?c3_14 ?k3_14 (fun _ _ _ _ _ _ us hl => match us, hl with | [_], _ => rfl), L2.Hx.srcM_of ?a4_14 ?i4_14 ?l4_14 ?c4_14 ?k4_14 (fun _ _ _ _ _ _ us hl => match us, hl with | [_, _], _ => rfl), L2.Hx.srcM_of ?a5_14 ?i5_14 ?l5_14 ?c5_14 ?k5_14 (fun _ _ _ _ _ _ us hl => match us, hl with | [_, _], _ => rfl), L2.Hx.srcM_of ?a6_14 ?i6_14 ?l6_14 ?c6_14 ?k6_14 (fun _ _ _ _ _ _ us hl => match us, hl with | [_, _], _ => rfl)⟩
      (case aC_14 => k_is)
      (case pg_14 => k_is)
      (case hd_14 => k_is)
      (case po_14 => k_is)
      (case sa_14 => k_is)
      (case n0_14 => k_is)
      (case n1_14 => k_is)
      (case n2_14 => k_is)
      (case n3_14 => k_is)
      (case n4_14 => k_is)
      (case n5_14 => k_is)
      (case a0_14 => k_is)
      (case i0_14 => k_is)
      (case l0_14 => k_is)
      (case c0_14 => k_is)
      (case k0_14 => k_is)
      (case m0_14 => k_is)
      (case q0_14 => k_is)
      (case a1_14 => k_is)
      (case i1_14 => k_is)
      (case l1_14 => k_is)
      (case c1_14 => k_is)
      (case k1_14 => k_is)
      (case a2_14 => k_is)
      (case i2_14 => k_is)
      (case l2_14 => k_is)
      (case c2_14 => k_is)
      (case k2_14 => k_is)
      (case a3_14 => k_is)
      (case i3_14 => k_is)
      (case l3_14 => k_is)
      (case c3_14 => k_is)
      (case k3_14 => k_is)
      (case a4_14 => k_is)
      (case i4_14 => k_is)
      (case l4_14 => k_is)
      (case c4_14 => k_is)
      (case k4_14 => k_is)
      (case a5_14 => k_is)
      (case i5_14 => k_is)
      (case l5_14 => k_is)
      (case c5_14 => k_is)
      (case k5_14 => k_is)
      (case a6_14 => k_is)
      (case i6_14 => k_is)
      (case l6_14 => k_is)
      (case c6_14 => k_is)
      (case k6_14 => k_is)
    have d_looks_hold : ∃ f fd, L2.Hx.Src (L2.KOf KX) mg "looks_hold" L2.Hx.s_looks_hold ["looks", "values"] f fd := by
      dsimp only [L2.KOf]
      refine' L2.Hx.src_of KX G ?e1_15 ?e2_15 ?e3_15 ?e4_15 (fun _ _ _ _ _ _ us hl => match us, hl with | [_, _], _ => rfl)
      (case e1_15 => k_is)
      (case e2_15 => k_is)
      (case e3_15 => k_is)
      (case e4_15 => k_is)
    have d_run : ∃ f fd, L2.Hx.Src (L2.KOf KX) mg "run" L2.Hx.s_run ["program", "name", "args", "heap", "choices", "limit"] f fd := by
      dsimp only [L2.KOf]
      refine' L2.Hx.src_of KX G ?e1_16 ?e2_16 ?e3_16 ?e4_16 (fun _ _ _ _ _ _ us hl => match us, hl with | [_, _, _, _, _, _], _ => rfl)
      (case e1_16 => k_is)
      (case e2_16 => k_is)
      (case e3_16 => k_is)
      (case e4_16 => k_is)
    have d_outcome : ∃ f fd, L2.Hx.Src (L2.KOf KX) mg "outcome" L2.Hx.s_outcome ["functions", "first", "ground"] f fd := by
      dsimp only [L2.KOf]
      refine' L2.Hx.src_of KX G ?e1_17 ?e2_17 ?e3_17 ?e4_17 (fun _ _ _ _ _ _ us hl => match us, hl with | [_, _, _], _ => rfl)
      (case e1_17 => k_is)
      (case e2_17 => k_is)
      (case e3_17 => k_is)
      (case e4_17 => k_is)
    have d_first_worths : ∃ f fd, L2.Hx.Src (L2.KOf KX) mg "first_worths" L2.Hx.s_first_worths ["params", "wheres", "args"] f fd := by
      dsimp only [L2.KOf]
      refine' L2.Hx.src_of KX G ?e1_18 ?e2_18 ?e3_18 ?e4_18 (fun _ _ _ _ _ _ us hl => match us, hl with | [_, _, _], _ => rfl)
      (case e1_18 => k_is)
      (case e2_18 => k_is)
      (case e3_18 => k_is)
      (case e4_18 => k_is)
    have d_test_holds : ∃ f fd, L2.Hx.Src (L2.KOf KX) mg "test_holds" L2.Hx.s_test_holds ["test", "worths", "ground"] f fd := by
      dsimp only [L2.KOf]
      refine' L2.Hx.src_of KX G ?e1_19 ?e2_19 ?e3_19 ?e4_19 (fun _ _ _ _ _ _ us hl => match us, hl with | [_, _, _], _ => rfl)
      (case e1_19 => k_is)
      (case e2_19 => k_is)
      (case e3_19 => k_is)
      (case e4_19 => k_is)
    have d_do_plain : ∃ f fd, L2.Hx.Src (L2.KOf KX) mg "do_plain" L2.Hx.s_do_plain ["statement", "worths", "ground"] f fd := by
      dsimp only [L2.KOf]
      refine' L2.Hx.src_of KX G ?e1_20 ?e2_20 ?e3_20 ?e4_20 (fun _ _ _ _ _ _ us hl => match us, hl with | [_, _, _], _ => rfl)
      (case e1_20 => k_is)
      (case e2_20 => k_is)
      (case e3_20 => k_is)
      (case e4_20 => k_is)
    have d_l_stock : ∃ f fd, L2.Hx.Src (L2.KOf KX) mg "_law_stock" L2.Hx.s_l_stock ["script"] f fd := by
      dsimp only [L2.KOf]
      refine' L2.Hx.src_of KX G ?e1_21 ?e2_21 ?e3_21 ?e4_21 (fun _ _ _ _ _ _ us hl => match us, hl with | [_], _ => rfl)
      (case e1_21 => k_is)
      (case e2_21 => k_is)
      (case e3_21 => k_is)
      (case e4_21 => k_is)
    have d_l_draw : ∃ f fd, L2.Hx.Src (L2.KOf KX) mg "_law_draw" L2.Hx.s_l_draw ["stock", "size"] f fd := by
      dsimp only [L2.KOf]
      refine' L2.Hx.src_of KX G ?e1_22 ?e2_22 ?e3_22 ?e4_22 (fun _ _ _ _ _ _ us hl => match us, hl with | [_, _], _ => rfl)
      (case e1_22 => k_is)
      (case e2_22 => k_is)
      (case e3_22 => k_is)
      (case e4_22 => k_is)
    have d_l_pick : ∃ f fd, L2.Hx.Src (L2.KOf KX) mg "_law_pick" L2.Hx.s_l_pick ["stock", "row"] f fd := by
      dsimp only [L2.KOf]
      refine' L2.Hx.src_of KX G ?e1_23 ?e2_23 ?e3_23 ?e4_23 (fun _ _ _ _ _ _ us hl => match us, hl with | [_, _], _ => rfl)
      (case e1_23 => k_is)
      (case e2_23 => k_is)
      (case e3_23 => k_is)
      (case e4_23 => k_is)
    have d_l_shuffled : ∃ f fd, L2.Hx.Src (L2.KOf KX) mg "_law_shuffled" L2.Hx.s_l_shuffled ["stock", "row"] f fd := by
      dsimp only [L2.KOf]
      refine' L2.Hx.src_of KX G ?e1_24 ?e2_24 ?e3_24 ?e4_24 (fun _ _ _ _ _ _ us hl => match us, hl with | [_, _], _ => rfl)
      (case e1_24 => k_is)
      (case e2_24 => k_is)
      (case e3_24 => k_is)
      (case e4_24 => k_is)
    have d_l_plain : ∃ f fd, L2.Hx.Src (L2.KOf KX) mg "_law_plain" L2.Hx.s_l_plain ["name", "params", "wheres", "body"] f fd := by
      dsimp only [L2.KOf]
      refine' L2.Hx.src_of KX G ?e1_25 ?e2_25 ?e3_25 ?e4_25 (fun _ _ _ _ _ _ us hl => match us, hl with | [_, _, _, _], _ => rfl)
      (case e1_25 => k_is)
      (case e2_25 => k_is)
      (case e3_25 => k_is)
      (case e4_25 => k_is)
    have d_l_wrong : ∃ f fd, L2.Hx.Src (L2.KOf KX) mg "_law_wrong" L2.Hx.s_l_wrong ["stock", "kind"] f fd := by
      dsimp only [L2.KOf]
      refine' L2.Hx.src_of KX G ?e1_26 ?e2_26 ?e3_26 ?e4_26 (fun _ _ _ _ _ _ us hl => match us, hl with | [_, _], _ => rfl)
      (case e1_26 => k_is)
      (case e2_26 => k_is)
      (case e3_26 => k_is)
      (case e4_26 => k_is)
    have d_l_around : ∃ f fd, L2.Hx.Src (L2.KOf KX) mg "_law_around" L2.Hx.s_l_around ["stock", "rows"] f fd := by
      dsimp only [L2.KOf]
      refine' L2.Hx.src_of KX G ?e1_27 ?e2_27 ?e3_27 ?e4_27 (fun _ _ _ _ _ _ us hl => match us, hl with | [_, _], _ => rfl)
      (case e1_27 => k_is)
      (case e2_27 => k_is)
      (case e3_27 => k_is)
      (case e4_27 => k_is)
    have d_l_is_told : ∃ f fd, L2.Hx.Src (L2.KOf KX) mg "_law_is_told" L2.Hx.s_l_is_told ["program", "way", "steps", "due", "is_named"] f fd := by
      dsimp only [L2.KOf]
      refine' L2.Hx.src_of KX G ?e1_28 ?e2_28 ?e3_28 ?e4_28 (fun _ _ _ _ _ _ us hl => match us, hl with | [_, _, _, _, _], _ => rfl)
      (case e1_28 => k_is)
      (case e2_28 => k_is)
      (case e3_28 => k_is)
      (case e4_28 => k_is)
    have d_l_is_refused : ∃ f fd, L2.Hx.Src (L2.KOf KX) mg "_law_is_refused" L2.Hx.s_l_is_refused ["program", "name"] f fd := by
      dsimp only [L2.KOf]
      refine' L2.Hx.src_of KX G ?e1_29 ?e2_29 ?e3_29 ?e4_29 (fun _ _ _ _ _ _ us hl => match us, hl with | [_, _], _ => rfl)
      (case e1_29 => k_is)
      (case e2_29 => k_is)
      (case e3_29 => k_is)
      (case e4_29 => k_is)
    have d_law : ∃ f fd, L2.Hx.Src (L2.KOf KX) mg "law" L2.Hx.s_law ["script"] f fd := by
      dsimp only [L2.KOf]
      refine' L2.Hx.src_of KX G ?e1_30 ?e2_30 ?e3_30 ?e4_30 (fun _ _ _ _ _ _ us hl => match us, hl with | [_], _ => rfl)
      (case e1_30 => k_is)
      (case e2_30 => k_is)
      (case e3_30 => k_is)
      (case e4_30 => k_is)
    exact ⟨b_ValueError, b_dict, b_enumerate, b_int, b_isinstance, b_len, b_list, b_range, b_repr, b_sum, b_tuple, b_zip, x_NoFunction, k_Frame, k_Ground, d_looks_hold, d_run, d_outcome, d_first_worths, d_test_holds, d_do_plain, d_l_stock, d_l_draw, d_l_pick, d_l_shuffled, d_l_plain, d_l_wrong, d_l_around, d_l_is_told, d_l_is_refused, d_law⟩

