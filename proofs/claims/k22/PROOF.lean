import PyProof.Rows.All
import Wide.All
import OpenK.AllK
import Wide.FinOn
import HandS.ForMost
import HandS.IsInst
import HandS.TupAny
import HandS.TupMul
import HandS.Wide
import PyProof.ReprRoads
import KE.GoesEnum
import PyProof.EqKinds
import HandS.FStrTup
import PyProof.FitsInt
import HandS.Walk
import PyProof.NeKinds
import HandS.ListItems
import KE.KItemsList
import PyProof.ZipIter
import KE.KDictPairs
import HandS.Style
import HandS.Sort
import HandS.SortRule
import HandS.Deep
import HandS.SortInts
import HandS.More
import HandS.DictComp
import HandS.Dict
import PyProof.Rows.SortKeyStr
import PyProof.P3In
import KE.KDictZip
import HandS.DictTup
import HandS.Conv
import HandS.Small
import KE.SortData
import KE.DatumOrd
import HandS.Iter
import KE.KDictList
import HandS.Comp
import HandS.Exc
import HandS.ExcIs
import HandS.ExcOwn
import HandS.WordsExc
import KE.SortCalls
import PyProof.EqAt
import HandS.Flow
import HandS.WordsDict
import HandS.DeepEq
import PySem.Challenge.RW_heldapart_k22_whole_names_and_ways
set_option Elab.async false
set_option linter.all false
set_option maxRecDepth 100000
set_option maxHeartbeats 4000000
/-! Calls that carry the word «no repr is under way», so that repr of data is known. -/
namespace L2.Hx
open PySem PySem.Spec PyProof.Rows

/-- FnOk, for callers around whom no guard stands -/
structure FnG (P : Program) (w : World) (K : PySem.W.Frag) (mg : Str → Option Value) (base : Heap) (CX : CXT) (k : Nat) (f : Addr) (fd : FuncData) (ps : List Str) (sp : Sp) : Prop where
  ln : ∀ vs H Q E, sp vs H Q E → vs.length = ps.length
  go : ∀ (A : Around) (outer : List Env) (s : Shared) (H : Hp) (args : Args) (us : List Value) (vs : List V) (Q : VK) (E : XK), A.guards = some [] → Room k A → Env0 P w K mg base A outer s H →
    BindsTo s fd args (ps.zip us) → Vals vs us → sp vs H Q E → codeAny (model P w) A (.call (.ref f) args) (CR CX outer P w H s Q E) s

section
variable {P : Program} {w : World} {K : PySem.W.Frag} {mg : Str → Option Value} {base : Heap} {CX : CXT} {f : Addr} {fd : FuncData} {ps : List Str} {sp : Sp} {k : Nat}
theorem FnG.ofOk (F : FnOk P w K mg base CX k f fd ps sp) : FnG P w K mg base CX k f fd ps sp :=
  ⟨F.len, fun A outer s H args us vs Q E _ hr e b r h => F.run A outer s H args us vs Q E hr e b r h⟩
theorem FnG.mono {j : Nat} (F : FnG P w K mg base CX j f fd ps sp) (h : j ≤ k) : FnG P w K mg base CX k f fd ps sp :=
  ⟨F.ln, fun A outer s H args us vs Q E hg hr => F.go A outer s H args us vs Q E hg (hr.mono h)⟩
theorem FnG.imp {sp' : Sp} (F : FnG P w K mg base CX k f fd ps sp) (h : ∀ vs H Q E, sp' vs H Q E → sp vs H Q E) : FnG P w K mg base CX k f fd ps sp' :=
  ⟨fun vs H Q E q => F.ln vs H Q E (h _ _ _ _ q), fun A outer s H args us vs Q E hg hr e b r q => F.go A outer s H args us vs Q E hg hr e b r (h _ _ _ _ q)⟩
/-- a def by its body -/
theorem fng_of {name qual : Str} {params : Arguments} {body : List Stmt} {scope : Scope} {dV kV doc pm cdv ct oc : Value} {an od : Option Addr} {osl : Array (Option Value)} {N : List Str}
    (lk : K.lookup f = some ⟨oc, od, .func (PySem.W.fnOf name qual params body scope dV kV doc pm an cdv ct), osl⟩) (hcd : PySem.W.codeIn K cdv qual = true) (S : FnScope N ps scope)
    (hn : ∀ vs H Q E, sp vs H Q E → vs.length = ps.length)
    (hbody : ∀ (A : Around) (outer : List Env) (s : Shared) (H : Hp) (vs : List V) (Q : VK) (E : XK), A.guards = some [] → Room k (A.deeper (envOfC qual scope s.heap.objs.size f cdv)) → sp vs H Q E →
      ∃ t, PSs (cxOf CX P w K mg base N qual scope f cdv A outer s H E) body t ∧ t { nx := fun _ H' => Q .non H', rt := Q } (start N vs) H) :
    FnG P w K mg base CX (k + 1) f (PySem.W.fnOf name qual params body scope dV kV doc pm an cdv ct) ps sp := by
  refine ⟨hn, fun A outer s H args us vs Q E hgd hr en hbd rv hsp => ?_⟩
  have hlen := hn _ _ _ _ hsp
  have kin : K.In s.heap := en.mod.kin.keeps fun b o q => (en.bs b o q).1
  have nol : s.heap.NoLimit := en.mod.nolimit.keeps fun b o q => (en.bs b o q).1
  have kinds : ∀ y ∈ ps.zip us, scope.names.lookup y.1 = some .local ∨ (scope.names.lookup y.1 = some .cell ∧ ((cellsFrom (s.heap.objs.size + 1) scope.names []).lookup y.1).isSome = true) := fun ⟨n, v⟩ hy =>
    (S.par n (List.of_mem_zip hy).1).elim (fun z => .inl z) fun z => .inr ⟨z, PySem.W.cellsFrom_some _ _ _ (.inl z)⟩
  refine codeAny_call_function hr.depth (kin _ _ lk) rfl S.co S.gen rfl (PySem.W.codeRec_of kin hcd) (hbd _ _ _ _ ?_)
  refine wpAny_newFunctionEnv_cells S.kind kinds fun env he s1 x => ?_
  subst he
  refine ⟨nol.keeps x.toInCall.keep, codeAny_func ?_⟩
  obtain ⟨t, ht, hq⟩ := hbody A outer s H vs Q E hgd (hr.deeper _) hsp
  have J0 := inv_start (CX := CX) (P := P) (w := w) (K := K) (mg := mg) (base := base) (E := E) S hr.hd en hlen rv x
  refine wpAny_mono (ht.run [] s1 (start N vs) H _ J0 hq) (fun fl s2 hs => ?_) fun e s2 hs => hs
  cases fl with
  | ret u => obtain ⟨v, σ', H', J, r, q⟩ := hs; exact ⟨v, H', J.os, J.bare, J.base, J.hok, r, q⟩
  | next => obtain ⟨σ', H', J, q⟩ := hs; exact ⟨V.non, H', J.os, J.bare, J.base, J.hok, rfl, q⟩
  | brk => obtain ⟨_, _, _, q⟩ := hs; exact q.elim
  | cont => obtain ⟨_, _, _, q⟩ := hs; exact q.elim
/-- a def of the text that lets nothing out -/
theorem okG {x qual : Str} {st : Stmt} {N : List Str} (F : Fun K x qual st f fd) (S : FnScope N ps (defScope st)) (hn : ∀ vs H Q E, sp vs H Q E → vs.length = ps.length)
    (hbody : ∀ (cdv : Value) (A : Around) (outer : List Env) (s : Shared) (H : Hp) (vs : List V) (Q : VK) (E : XK), (A.deeper (envOfC qual (defScope st) s.heap.objs.size f cdv)).guards = some [] → Room k (A.deeper (envOfC qual (defScope st) s.heap.objs.size f cdv)) → sp vs H Q E →
      ∃ t, PSs (cxOf CX0 P w K mg base N qual (defScope st) f cdv A outer s H E).nox (defBody st) t ∧ t { nx := fun _ H' => Q .non H', rt := Q } (start N vs) H) :
    FnG P w K mg base CX0 (k + 1) f fd ps sp := by
  obtain ⟨oc, od, kV, doc, pm, an, cdv, ct, osl, rfl, lk, hcd⟩ := F.ex
  refine fng_of lk hcd S hn fun A outer s H vs Q E hgd hr hsp => ?_
  obtain ⟨t, h, q⟩ := hbody cdv A outer s H vs Q E hgd hr hsp
  exact ⟨t, h.nox, q⟩
end

section
variable {X : Cx} {CX : CXT} {k : Nat} {f : Addr} {fd : FuncData} {ps ks : List Str} {sp : Sp} {dvs : List V} {ds : List Value} {E : XK} {x : Str} {p pos : Pos} {e : Expr} {es : List Expr} {kws : List Keyword} {t tk : TA}
/-- the callee runs -/
theorem run_g {pins : List (Addr × Obj)} {σ : St} {H : Hp} {s : Shared} {Q : VK} {us : List Value} {vs : List V} (F : FnG X.prog X.w X.K X.mg X.base CX k f fd ps sp) (hgd : X.A.guards = some []) (hr : Room k X.A) (hb : Binds X.K fd ps ds) (hd : Vals dvs ds) (hx : Passes CX X E)
    (I : Inv X pins σ H s) (r : Vals vs us) (h : sp (vs ++ dvs) H Q E) : wpAny (model X.prog X.w) X.A (call (.ref f) us) (EP X pins σ Q) X.xe s := by
  have rd : Vals (vs ++ dvs) (us ++ ds) := r.append hd
  have hlen : (us ++ ds).length = ps.length := rd.length.symm.trans (F.ln _ _ _ _ h)
  refine wpAny_call (codeAny_mono (F.go X.A X.stack s H ⟨us, []⟩ (us ++ ds) (vs ++ dvs) Q E hgd hr I.env0 (hb s us I.kIn hlen) rd h) fun z s2 hq => ?_)
  cases z with
  | error er => exact hx pins σ H s er s2 I hq
  | ok fl =>
    cases fl with
    | ret u => exact I.after hq
    | next => exact hq.elim
    | brk => exact hq.elim
    | cont => exact hq.elim
theorem pe_g (F : FnG X.prog X.w X.K X.mg X.base CX k f fd ps sp) (hgd : X.A.guards = some []) (hr : Room k X.A) (hg : Gl X x) (hm : X.mg x = some (.ref f)) (hk : PySem.W.keepIn X.K (.ref f) = true) (hb : Binds X.K fd ps ds) (hd : Vals dvs ds) (hx : Passes CX X E)
    (ha : PA X (e :: es) t) (hdb : (x == ("__debug__" : Str)) = false := by decide) (he : starEach (e :: es) X.env = (false, eval e X.env) :: starEach es X.env := by rfl) (hpl : (backTo pos (starEach es X.env)).any (·.1) = false := by rfl) :
    PE X (.Call (.Name x p) (e :: es) [] pos) (tCall sp dvs E t) := ⟨fun pins s σ H Q I h =>
  wpAny_Call_Name_kw (ld_glob I hg hm (PySem.W.callWith_K (h₀ := X.base) I.ok.mod.kin hk (thn (ha.run pos pins s σ H _ I h) fun us s1 ⟨vs, H1, I1, r, q⟩ => ⟨I1.kIn, run_g F hgd hr hb hd hx I1 r q⟩) he hpl) hdb)⟩
theorem pe_g0 (F : FnG X.prog X.w X.K X.mg X.base CX k f fd ps sp) (hgd : X.A.guards = some []) (hr : Room k X.A) (hg : Gl X x) (hm : X.mg x = some (.ref f)) (hk : PySem.W.keepIn X.K (.ref f) = true) (hb : Binds X.K fd ps ds) (hd : Vals dvs ds) (hx : Passes CX X E)
    (hdb : (x == ("__debug__" : Str)) = false := by decide) : PE X (.Call (.Name x p) [] [] pos) (tCall sp dvs E tNil) := ⟨fun pins s σ H Q I h =>
  wpAny_Call_Name_kw (ld_glob I hg hm (PySem.W.callWith_K0 I.kIn hk (run_g (us := []) F hgd hr hb hd hx I .nil h)) hdb)⟩
/-- f(k = v, ..) by names alone: hb puts the values in the parameters' order -/
def KwBinds (K : PySem.W.Frag) (fd : FuncData) (ps ks : List Str) (g : {α : Type} → List α → List α) : Prop :=
  ∀ (s : Shared) (ws : List Value), K.In s.heap → ws.length = ps.length → BindsTo s fd ⟨[], ks.zip ws⟩ (ps.zip (g ws))
def tKw (sp : Sp) (g : {α : Type} → List α → List α) (n : Nat) (E : XK) (tk : TA) : TE := fun σ H Q => tk σ H fun zs H2 => zs.length = n ∧ sp (g zs) H2 Q E
theorem pe_kw {g : {α : Type} → List α → List α} (F : FnG X.prog X.w X.K X.mg X.base CX k f fd ps sp) (hgd : X.A.guards = some []) (hr : Room k X.A) (hg : Gl X x) (hm : X.mg x = some (.ref f)) (hk : PySem.W.keepIn X.K (.ref f) = true) (hb : KwBinds X.K fd ps ks g) (hx : Passes CX X E)
    (hkw : PK X kws tk) (hrel : ∀ {zs : List V} {ws : List Value}, Vals zs ws → Vals (g zs) (g ws)) (hall : (backToKw pos (keywordEach kws X.env)).all (·.1.isSome) = true := by rfl) (hks : (backToKw pos (keywordEach kws X.env)).filterMap (·.1) = ks := by rfl) (hdb : (x == ("__debug__" : Str)) = false := by decide)
    (hpl : ((backTo pos (starEach [] X.env)).any (·.1) || (backToKw pos (keywordEach kws X.env)).any (·.1.isNone)) = false := by rfl) :
    PE X (.Call (.Name x p) [] kws pos) (tKw sp g ps.length E tk) := by
  refine ⟨fun pins s σ H Q I h => wpAny_Call_Name_kw (ld_glob I hg hm ?_ hdb)⟩
  refine PySem.W.callWith_KW0 (h₀ := X.base) I.ok.mod.kin hk hall ?_ hpl
  refine thn (hkw.run pos pins s σ H _ I h) fun ws s2 ⟨zs, H2, I2, rz, hz, q2⟩ => ⟨I2.kIn, ?_⟩
  rw [hks]
  have rg := hrel rz
  refine wpAny_call (codeAny_mono (F.go X.A X.stack s2 H2 ⟨[], ks.zip ws⟩ (g ws) (g zs) Q E hgd hr I2.env0 (hb s2 ws I2.kIn (rz.length.symm.trans hz)) rg q2) fun z s3 hq => ?_)
  cases z with
  | error er => exact hx pins σ H2 s2 er s3 I2 hq
  | ok fl =>
    cases fl with
    | ret u => exact I2.after hq
    | next => exact hq.elim
    | brk => exact hq.elim
    | cont => exact hq.elim
end
end L2.Hx

/-! Data of any depth, dicts too, over a part G of the tracked heap; repr of data. -/
namespace L2.Hx
open PySem PySem.Spec PyProof.Rows

def keyD : Key → PyData
  | .inl i => .int i
  | .inr x => .str x
mutual
inductive Da (K : PySem.W.Frag) (G : Hp) : V → PyData → Prop
  | non : Da K G .non .none
  | bl (b : Bool) : Da K G (.bl b) (.bool b)
  | int (i : Int) : Da K G (.int i) (.int i)
  | str (x : Str) : Da K G (.str x) (.str x)
  | lst {a : Addr} {xs : List V} {ds : List PyData} : G a = some (.lst xs) → DaAll K G xs ds → Da K G (.ref a) (.list ds)
  | tup {a : Addr} {xs : List V} {ds : List PyData} : SqT K G a xs → DaAll K G xs ds → Da K G (.ref a) (.tuple ds)
  | dct {a : Addr} {kvs : List (Key × V)} {ds : List PyData} : G a = some (.dK kvs) → DaAll K G (kvs.map (·.2)) ds → Da K G (.ref a) (.dict ((kvs.map fun p => keyD p.1).zip ds))
inductive DaAll (K : PySem.W.Frag) (G : Hp) : List V → List PyData → Prop
  | nil : DaAll K G [] []
  | cons {v : V} {vs : List V} {d : PyData} {ds : List PyData} : Da K G v d → DaAll K G vs ds → DaAll K G (v :: vs) (d :: ds)
end
section
variable {K : PySem.W.Frag} {G G' : Hp}
theorem DaAll.length : ∀ {vs : List V} {ds : List PyData}, DaAll K G vs ds → vs.length = ds.length
  | _, _, .nil => rfl
  | _, _, .cons _ t => by rw [List.length_cons, List.length_cons, DaAll.length t]
theorem sameT {a : Addr} {xs : List V} (e : Same G G') (h : SqT K G a xs) : SqT K G' a xs := by
  rcases h with (q | ⟨o, q⟩) | q
  · exact .inl (.inl (e _ _ q))
  · exact .inl (.inr ⟨o, e _ _ q⟩)
  · exact .inr q
mutual
theorem Da.mono (e : Same G G') : ∀ {v : V} {d : PyData}, Da K G v d → Da K G' v d
  | _, _, .non => .non
  | _, _, .bl b => .bl b
  | _, _, .int i => .int i
  | _, _, .str x => .str x
  | _, _, .lst h t => .lst (e _ _ h) (DaAll.mono e t)
  | _, _, .tup h t => .tup (sameT e h) (DaAll.mono e t)
  | _, _, .dct h t => .dct (e _ _ h) (DaAll.mono e t)
theorem DaAll.mono (e : Same G G') : ∀ {vs : List V} {ds : List PyData}, DaAll K G vs ds → DaAll K G' vs ds
  | _, _, .nil => .nil
  | _, _, .cons h t => .cons (Da.mono e h) (DaAll.mono e t)
end
theorem DaAll.append : ∀ {vs ws : List V} {ds es : List PyData}, DaAll K G vs ds → DaAll K G ws es → DaAll K G (vs ++ ws) (ds ++ es)
  | _, _, _, _, .nil, s => s
  | _, _, _, _, .cons h t, s => .cons h (DaAll.append t s)
theorem DaAll.get : ∀ {vs : List V} {ds : List PyData} {i : Nat} {v : V}, DaAll K G vs ds → vs[i]? = some v → ∃ d, ds[i]? = some d ∧ Da K G v d
  | _, _, 0, _, .cons h t, e => by
    rw [List.getElem?_cons_zero] at e
    cases e
    exact ⟨_, rfl, h⟩
  | _, _, i + 1, v, .cons h t, e => by
    rw [List.getElem?_cons_succ] at e ⊢
    exact DaAll.get t e
theorem DaAll.mem {vs : List V} {ds : List PyData} {v : V} (h : DaAll K G vs ds) (m : v ∈ vs) : ∃ d, d ∈ ds ∧ Da K G v d := by
  obtain ⟨i, e⟩ := List.mem_iff_getElem?.mp m
  obtain ⟨d, e2, q⟩ := h.get e
  exact ⟨d, List.mem_of_getElem? e2, q⟩
theorem DaAll.take : ∀ {vs : List V} {ds : List PyData} (n : Nat), DaAll K G vs ds → DaAll K G (vs.take n) (ds.take n)
  | _, _, 0, _ => .nil
  | _, _, _ + 1, .nil => .nil
  | _, _, n + 1, .cons h t => .cons h (DaAll.take n t)
theorem DaAll.drop : ∀ {vs : List V} {ds : List PyData} (n : Nat), DaAll K G vs ds → DaAll K G (vs.drop n) (ds.drop n)
  | _, _, 0, h => h
  | _, _, _ + 1, .nil => .nil
  | _, _, n + 1, .cons _ t => DaAll.drop n t
theorem DaAll.rep {v : V} {d : PyData} (h : Da K G v d) : ∀ n : Nat, DaAll K G (List.replicate n v) (List.replicate n d)
  | 0 => .nil
  | n + 1 => .cons h (DaAll.rep h n)
theorem DaAll.set {v : V} {d : PyData} (h : Da K G v d) : ∀ {vs : List V} {ds : List PyData} (i : Nat), DaAll K G vs ds → DaAll K G (vs.set i v) (ds.set i d)
  | _, _, _, .nil => .nil
  | _, _, 0, .cons _ t => .cons h t
  | _, _, i + 1, .cons q t => .cons q (DaAll.set h i t)
theorem DaAll.flat {vs : List V} {ds : List PyData} (h : DaAll K G vs ds) : ∀ n : Nat, DaAll K G (List.replicate n vs).flatten (List.replicate n ds).flatten
  | 0 => .nil
  | n + 1 => by
    rw [List.replicate_succ, List.replicate_succ, List.flatten_cons, List.flatten_cons]
    exact h.append (DaAll.flat h n)
end

theorem pairs_keys {P : Program} {w : World} : ∀ {es : List DictEntry} {kvs : List (Key × V)} {vs : List (Key × Value)}, KV kvs vs → Pairs (mixKind P w) es vs →
    Vals (kvs.map fun p => kV p.1) (es.map (·.key)) ∧ Vals (kvs.map (·.2)) (es.map (·.val))
  | _, _, _, .nil, .nil => ⟨.nil, .nil⟩
  | e :: es, (k, v) :: kvs, (k', u) :: vs, .cons ⟨r1, r2⟩ t, .cons h1 h2 h3 => by
    obtain ⟨a, b⟩ := pairs_keys t h3
    refine ⟨.cons ?_ a, .cons ?_ b⟩
    · have r1 : k = k' := r1
      have h1 : keyIs k' e.key = true := h1
      subst r1
      rcases keyIs_shape h1 with ⟨i, tk, rfl, q⟩ | ⟨x, tk, rfl, q⟩
      · exact ⟨tk, q⟩
      · exact ⟨tk, q⟩
    · show RelV v e.val
      rw [h2]
      exact r2
theorem keyD_da {K : PySem.W.Frag} {G : Hp} : ∀ (ks : List Key), DaAll K G (ks.map kV) (ks.map keyD)
  | [] => .nil
  | .inl i :: r => .cons (.int i) (keyD_da r)
  | .inr x :: r => .cons (.str x) (keyD_da r)

section
variable {X : Cx} {pins : List (Addr × Obj)} {σ : St} {H G : Hp} {s : Shared}
theorem zip_fst : ∀ {as bs : List PyData}, as.length = bs.length → (as.zip bs).map (·.1) = as
  | [], _, _ => by simp
  | a :: as, b :: bs, h => by
    rw [List.zip_cons_cons, List.map_cons, zip_fst (by simpa using h)]
theorem zip_snd : ∀ {as bs : List PyData}, as.length = bs.length → (as.zip bs).map (·.2) = bs
  | [], [], _ => rfl
  | [], _ :: _, h => by simp at h
  | a :: as, [], h => by simp at h
  | a :: as, b :: bs, h => by
    rw [List.zip_cons_cons, List.map_cons, zip_snd (by simpa using h)]
/-- what stands at a dict's address -/
theorem dict_at {a : Addr} {kvs : List (Key × V)} (I : Inv X pins σ H s) (h : H a = some (.dK kvs)) : ∃ o es n, s.heap.get? a = some o ∧ o.cls = .type "dict" ∧ o.data = .dict es n ∧ (a == sysModules) = false ∧
    Vals (kvs.map fun p => kV p.1) (es.toList.map (·.key)) ∧ Vals (kvs.map (·.2)) (es.toList.map (·.val)) := by
  obtain ⟨_, hs, vs, r, o, es, ep, h1, h2, h3, _, h5, _⟩ := (show ObjOk X.prog X.w H s.heap a (.dK kvs) from I.hok a _ h)
  obtain ⟨q1, q2⟩ := pairs_keys r h5
  exact ⟨o, es, ep, h1, h2.1, h3, hs, q1, q2⟩
abbrev RkOf (X : Cx) (h : Heap) (u : Value) (d : PyData) : Prop := ∃ as bs, Reads h u d as ∧ ReadAtMost h d.depth bs ∧ ReprK X.prog X.w bs h d.depth u d.shown
abbrev RkAll (X : Cx) (h : Heap) (us : List Value) (ds : List PyData) : Prop := ∃ as bs, ReadsAll h us ds as ∧ ReadAtMost h (PyData.depthAll ds) bs ∧ ReprAllK X.prog X.w bs h (PyData.depthAll ds) us (PyData.shownAll ds)
theorem no_addr {h : Heap} {n : Nat} : ReadAtMost h n [] := fun b q => absurd q List.not_mem_nil
theorem rk_keys : ∀ (ks : List Key) (us : List Value), Vals (ks.map kV) us → PyData.showableAll (ks.map keyD) = true → (∀ t ∈ PyData.shownAll (ks.map keyD), t.length ≤ sizeLine) → RkAll X s.heap us (ks.map keyD)
  | [], _, .nil, _, _ => ⟨_, [], .nil, no_addr, .nil⟩
  | k :: ks, _, .cons r t, hs, hz => by
    rw [List.map_cons, PyData.showableAll, Bool.and_eq_true] at hs
    rw [List.map_cons] at hz ⊢
    unfold PyData.shownAll at hz
    obtain ⟨as, bs, q1, q2, q3⟩ := rk_keys ks _ t hs.2 fun z m => hz z (List.mem_cons_of_mem _ m)
    have h0 := hz _ List.mem_cons_self
    cases k with
    | inl i =>
      obtain ⟨tk, rfl⟩ := r
      exact ⟨_, bs, .cons (.int i tk) q1, q2.mono (Nat.le_max_right _ _), .cons (.of_is (ReprIs.int tk (by simpa [keyD, PyData.showable] using hs.1)) _ _ _) (q3.more_le (fun _ m => m) (Nat.le_max_right _ _))⟩
    | inr x =>
      obtain ⟨tk, rfl⟩ := r
      exact ⟨_, bs, .cons (.str x tk) q1, q2.mono (Nat.le_max_right _ _), .cons (.of_is (ReprIs.str x tk (by simpa only [keyD, PyData.shown] using h0)) _ _ _) (q3.more_le (fun _ m => m) (Nat.le_max_right _ _))⟩
/-- the entries of a dict as repr reads them -/
theorem rk_entries {es : List DictEntry} {kvs : List (Key × V)} {ds : List PyData} (vk : Vals (kvs.map fun p => kV p.1) (es.map (·.key))) (hl : kvs.length = ds.length)
    (hv : PyData.showableAll ds = true → (∀ t ∈ PyData.shownAll ds, t.length ≤ sizeLine) → RkAll X s.heap (es.map (·.val)) ds) (hs : PyData.showableKv ((kvs.map fun p => keyD p.1).zip ds) = true)
    (hz : (dictText (PyData.shownKv ((kvs.map fun p => keyD p.1).zip ds))).length ≤ sizeLine) :
    ∃ as1 as2 bs, ReadsAll s.heap (es.map (·.key)) (((kvs.map fun p => keyD p.1).zip ds).map (·.1)) as1 ∧ ReadsAll s.heap (es.map (·.val)) (((kvs.map fun p => keyD p.1).zip ds).map (·.2)) as2 ∧
      ReadAtMost s.heap (PyData.depthKv ((kvs.map fun p => keyD p.1).zip ds)) bs ∧ ReprEntriesK X.prog X.w bs s.heap (PyData.depthKv ((kvs.map fun p => keyD p.1).zip ds)) es (PyData.shownKv ((kvs.map fun p => keyD p.1).zip ds)) := by
  have hll : (kvs.map fun p => keyD p.1).length = ds.length := by rw [List.length_map]; exact hl
  generalize hkv : (kvs.map fun p => keyD p.1).zip ds = kv at hs hz ⊢
  obtain ⟨s1, s2⟩ := PyData.showableKv_split kv hs
  have e1 : kv.map (·.1) = kvs.map fun p => keyD p.1 := by rw [← hkv]; exact zip_fst hll
  have e2 : kv.map (·.2) = ds := by rw [← hkv]; exact zip_snd hll
  have ek : (kvs.map (·.1)).map kV = kvs.map fun p => kV p.1 := by rw [List.map_map]; rfl
  have ed : (kvs.map (·.1)).map keyD = kvs.map fun p => keyD p.1 := by rw [List.map_map]; rfl
  have z1 : ∀ t ∈ PyData.shownAll (kv.map (·.1)), t.length ≤ sizeLine := fun t ht => let ⟨p, hp, hl⟩ := PyData.shownKv_key_le kv t ht; Nat.le_trans hl (Nat.le_trans (dictText_mem_le hp) hz)
  have z2 : ∀ t ∈ PyData.shownAll (kv.map (·.2)), t.length ≤ sizeLine := fun t ht => let ⟨p, hp, hl⟩ := PyData.shownKv_val_le kv t ht; Nat.le_trans hl (Nat.le_trans (dictText_mem_le hp) hz)
  have m1 := PyData.depthAll_keys_le kv
  have m2 := PyData.depthAll_vals_le kv
  rw [PyData.shownKv_eq]
  rw [e1] at s1 z1 m1 ⊢
  rw [e2] at s2 z2 m2 ⊢
  rw [← ed] at s1 z1 m1 ⊢
  rw [← ek] at vk
  obtain ⟨as1, b1, r1, a1, k1⟩ := rk_keys (X := X) (s := s) _ _ vk s1 z1
  obtain ⟨as2, b2, r2, a2, k2⟩ := hv s2 z2
  exact ⟨as1, as2, b1 ++ b2, r1, r2, (a1.mono m1).append (a2.mono m2), ReprEntriesK.of_two es _ _ (k1.more_le (fun b q => List.mem_append_left _ q) m1) (k2.more_le (fun b q => List.mem_append_right _ q) m2)⟩
mutual
theorem Da.rk (I : Inv X pins σ H s) (sm : Same G H) : ∀ {d : PyData} {v : V} {u : Value}, Da X.K G v d → RelV v u → d.showable = true → d.shown.length ≤ sizeLine → RkOf X s.heap u d
  | _, _, _, .non, r, _, _ => by
    cases r
    exact ⟨_, [], .none, no_addr, by simp only [PyData.shown]; exact .of_is ReprIs.none _ _ _⟩
  | _, _, _, .bl b, r, _, _ => by
    cases r
    exact ⟨_, [], .bool b, no_addr, by simp only [PyData.shown]; exact .of_is (ReprIs.bool b) _ _ _⟩
  | _, _, _, .int i, r, hs, _ => by
    obtain ⟨t, rfl⟩ := r
    exact ⟨_, [], .int i t, no_addr, by simp only [PyData.shown]; exact .of_is (ReprIs.int t (by simpa [PyData.showable] using hs)) _ _ _⟩
  | _, _, _, .str x, r, _, hz => by
    obtain ⟨t, rfl⟩ := r
    exact ⟨_, [], .str x t, no_addr, by simp only [PyData.shown]; exact .of_is (ReprIs.str x t (by simpa only [PyData.shown] using hz)) _ _ _⟩
  | .list ds, .ref a, _, .lst h t, r, hs, hz => by
    cases r
    have hz2 : (listText (PyData.shownAll ds)).length ≤ sizeLine := by simpa only [PyData.shown] using hz
    obtain ⟨_, its, n, rv, e⟩ := (show ObjOk X.prog X.w H s.heap a (.lst _) from I.hok a _ (sm _ _ h))
    obtain ⟨as, bs, q1, q2, q3⟩ := DaAll.rk I sm t rv (by simpa [PyData.showable] using hs) fun z hz' => Nat.le_trans (listText_mem_le hz') hz2
    have rd : Reads s.heap (.ref a) (.list ds) _ := .list e rfl rfl q1
    have hna : a ∉ bs := not_mem_of_deeper rd (by simp only [PyData.depth]; omega) q2
    refine ⟨_, a :: bs, rd, ReadAtMost.cons rd (by simp only [PyData.depth]; omega) q2, ?_⟩
    simp only [PyData.depth, PyData.shown]
    cases its with
    | nil =>
      cases q1
      simp only [PyData.shownAll, listText_nil]
      exact ReprK.listEmpty e rfl rfl
    | cons y l => exact ReprK.list e rfl rfl hna (by simpa using q3.length_eq) fun i z e2 => q3.item i z (by simpa using e2)
  | .tuple ds, .ref a, _, .tup h t, r, hs, hz => by
    cases r
    have hz2 : (tupleText (PyData.shownAll ds)).length ≤ sizeLine := by simpa only [PyData.shown] using hz
    obtain ⟨its, rv, ⟨o, ho, hc, n, hd⟩, _⟩ := I.tuple (sameT sm h)
    obtain ⟨as, bs, q1, q2, q3⟩ := DaAll.rk I sm t rv (by simpa [PyData.showable] using hs) fun z hz' => Nat.le_trans (tupleText_mem_le hz') hz2
    have rd : Reads s.heap (.ref a) (.tuple ds) _ := .tuple ho hc hd q1
    have hna : a ∉ bs := not_mem_of_deeper rd (by simp only [PyData.depth]; omega) q2
    refine ⟨_, a :: bs, rd, ReadAtMost.cons rd (by simp only [PyData.depth]; omega) q2, ?_⟩
    simp only [PyData.depth, PyData.shown]
    exact ReprK.tuple ho hc hd hna q3
  | _, .ref a, _, @Da.dct _ _ _ kvs ds h t, r, hs, hz => by
    cases r
    have hz2 : (dictText (PyData.shownKv ((kvs.map fun p => keyD p.1).zip ds))).length ≤ sizeLine := by simpa only [PyData.shown] using hz
    obtain ⟨o, es, n, ho, hc, hd, hsys, vk, vv⟩ := dict_at I (sm _ _ h)
    obtain ⟨as1, as2, bs, r1, r2, a3, k3⟩ := rk_entries (X := X) (s := s) vk (by rw [← t.length, List.length_map]) (fun s2 z2 => DaAll.rk I sm t vv s2 z2) (by simpa [PyData.showable] using hs) hz2
    have rd : Reads s.heap (.ref a) (.dict ((kvs.map fun p => keyD p.1).zip ds)) _ := .dict ho hc hd r1 r2
    have hna : a ∉ bs := not_mem_of_deeper rd (by simp only [PyData.depth]; omega) a3
    refine ⟨_, a :: bs, rd, ReadAtMost.cons rd (by simp only [PyData.depth]; omega) a3, ?_⟩
    simp only [PyData.depth, PyData.shown]
    exact ReprK.dict ho hc hd hsys hna k3
theorem DaAll.rk (I : Inv X pins σ H s) (sm : Same G H) : ∀ {ds : List PyData} {vs : List V} {us : List Value}, DaAll X.K G vs ds → Vals vs us → PyData.showableAll ds = true → (∀ t ∈ PyData.shownAll ds, t.length ≤ sizeLine) → RkAll X s.heap us ds
  | _, _, _, .nil, .nil, _, _ => ⟨_, [], .nil, no_addr, .nil⟩
  | _, _, _, .cons h t, .cons r rs, hs, hz => by
    rw [PyData.showableAll, Bool.and_eq_true] at hs
    unfold PyData.shownAll at hz
    obtain ⟨as1, b1, q1, a1, k1⟩ := Da.rk I sm h r hs.1 (hz _ List.mem_cons_self)
    obtain ⟨as2, b2, q2, a2, k2⟩ := DaAll.rk I sm t rs hs.2 fun z m => hz z (List.mem_cons_of_mem _ m)
    refine ⟨_, b1 ++ b2, .cons q1 q2, (a1.mono (Nat.le_max_left _ _)).append (a2.mono (Nat.le_max_right _ _)), ?_⟩
    exact .cons ((k1.more fun b q => List.mem_append_left _ q).level_le (Nat.le_max_left _ _)) (k2.more_le (fun b q => List.mem_append_right _ q) (Nat.le_max_right _ _))
end
end

/-! ### repr(x) -/
def rRepr (K : PySem.W.Frag) : List V → Hp → VK → Prop := fun xs H Q => ∃ (v : V) (d : PyData) (G : Hp), xs = [v] ∧ Same G H ∧ Da K G v d ∧ d.showable = true ∧ d.depth ≤ 60 ∧ d.shown.length ≤ sizeLine ∧ Q (.str d.shown) H
section
variable {X : Cx}
theorem call_repr (hgd : X.A.guards = some []) (hu : X.A.units + 64 < cLine) : CallR X (.builtin "repr") (rRepr X.K) := by
  intro pins s σ H xs us Q I r h
  obtain ⟨v, d, G, rfl, sm, hd, hs, hdp, hz, q⟩ := h
  obtain ⟨u, rfl, rv⟩ := vals1 r
  have done : ∀ h' t tk, (∀ b o, s.heap.get? b = some o → h'.get? b = some o) → EP X pins σ Q (.str d.shown t) { s with heap := h', toks := tk } := fun h' t tk k => ⟨.str _, H, I.kept k, ⟨_, rfl⟩, q⟩
  cases hd with
  | non => cases rv; exact P.repr_of_none ⟨.str _, H, I.tok _, ⟨_, rfl⟩, by simpa only [PyData.shown] using q⟩
  | bl b => cases rv; exact P.repr_of_bool ⟨.str _, H, I.tok _, ⟨_, rfl⟩, by simpa only [PyData.shown] using q⟩
  | int i => obtain ⟨t, rfl⟩ := rv; exact P.repr_of_int (by simpa [PyData.showable] using hs) ⟨.str _, H, I.tok _, ⟨_, rfl⟩, by simpa only [PyData.shown] using q⟩
  | str x => obtain ⟨t, rfl⟩ := rv; exact P.repr_of_str ⟨.str _, H, I.tok _, ⟨_, rfl⟩, by simpa only [PyData.shown] using q⟩ (by simpa only [PyData.shown] using hz)
  | @lst a xs ds h t =>
    cases rv
    have hz2 : (listText (PyData.shownAll ds)).length ≤ sizeLine := by simpa only [PyData.shown] using hz
    obtain ⟨_, its, n, rw', e⟩ := (show ObjOk X.prog X.w H s.heap a (.lst _) from I.hok a _ (sm _ _ h))
    obtain ⟨as, bs, q1, q2, q3⟩ := DaAll.rk I sm t rw' (by simpa [PyData.showable] using hs) fun z hz' => Nat.le_trans (listText_mem_le hz') hz2
    have rd : Reads s.heap (.ref a) (.list ds) _ := .list e rfl rfl q1
    have hna : a ∉ bs := not_mem_of_deeper rd (by simp only [PyData.depth]; omega) q2
    simp only [PyData.depth] at hdp
    refine call_repr_slot (T := "list") (idr := "list.__repr__") (by omega) ⟨_, e, rfl⟩ F.slot_list_repr.toG ?_
    cases its with
    | nil =>
      cases q1
      refine call_list_repr_empty ⟨_, e, rfl⟩ e rfl ⟨_, _, rfl, ?_⟩
      have := done s.heap s.toks (s.toks + 1) fun _ _ k => k
      simpa only [PyData.shown, PyData.shownAll, listText_nil] using this
    | cons y l =>
      exact call_list_reprK e rfl rfl hna (by simpa using q3.length_eq) (fun i z e2 => q3.item i z (by simpa using e2)) hgd (fun b _ => Clear.nil b) (by show X.A.units + 1 + _ < _; omega) (fun _ _ k => k)
        (fun h' t tk k => ⟨_, _, rfl, by have := done h' t tk k; simpa only [PyData.shown] using this⟩) hz2
  | @tup a xs ds h t =>
    cases rv
    have hz2 : (tupleText (PyData.shownAll ds)).length ≤ sizeLine := by simpa only [PyData.shown] using hz
    obtain ⟨its, rw', ⟨o, ho, hc, n, hdd⟩, _⟩ := I.tuple (sameT sm h)
    obtain ⟨as, bs, q1, q2, q3⟩ := DaAll.rk I sm t rw' (by simpa [PyData.showable] using hs) fun z hz' => Nat.le_trans (tupleText_mem_le hz') hz2
    have rd : Reads s.heap (.ref a) (.tuple ds) _ := .tuple ho hc hdd q1
    have hna : a ∉ bs := not_mem_of_deeper rd (by simp only [PyData.depth]; omega) q2
    simp only [PyData.depth] at hdp
    exact call_repr_slot (T := "tuple") (idr := "tuple.__repr__") (by omega) ⟨_, ho, hc⟩ F.slot_tuple_repr
      (call_tuple_reprK ho hc hdd hna q3 hgd (fun b _ => Clear.nil b) (by show X.A.units + 1 + _ < _; omega) (fun _ _ k => k) (fun h' t tk k => ⟨_, _, rfl, by have := done h' t tk k; simpa only [PyData.shown] using this⟩) hz2)
  | @dct a kvs ds h t =>
    cases rv
    have hz2 : (dictText (PyData.shownKv ((kvs.map fun p => keyD p.1).zip ds))).length ≤ sizeLine := by simpa only [PyData.shown] using hz
    obtain ⟨o, es, n, ho, hc, hdd, hsys, vk, vv⟩ := dict_at I (sm _ _ h)
    obtain ⟨as1, as2, bs, r1, r2, a3, k3⟩ := rk_entries (X := X) (s := s) vk (by rw [← t.length, List.length_map]) (fun s2 z2 => DaAll.rk I sm t vv s2 z2) (by simpa [PyData.showable] using hs) hz2
    have rd : Reads s.heap (.ref a) (.dict ((kvs.map fun p => keyD p.1).zip ds)) _ := .dict ho hc hdd r1 r2
    have hna : a ∉ bs := not_mem_of_deeper rd (by simp only [PyData.depth]; omega) a3
    simp only [PyData.depth] at hdp
    exact call_repr_slot (T := "dict") (idr := "dict.__repr__") (by omega) ⟨_, ho, hc⟩ F.slot_dict_repr
      (call_dict_reprK ho hc hdd hsys hna k3 hgd (fun b _ => Clear.nil b) (by show X.A.units + 1 + _ < _; omega) (fun _ _ k => k) (fun h' t tk k => ⟨_, _, rfl, by have := done h' t tk k; simpa only [PyData.shown] using this⟩) hz2)
end
end L2.Hx

/-! Own rules: «x in words» for any data x, enumerate of a tuple. -/
namespace L2.Hx
open PySem PySem.Spec PyProof.Rows
open AutoSeq1 (wpAny_loadPart')

section
theorem str_eq_dict (b : Str) (u : Tok) (l : Addr) (es : Array DictEntry) (n : Nat) (dd : Option Addr) (sl : Array (Option Value)) :
    Meets (Builtin.«str.__eq__» ⟨[.str b u, .ref l], []⟩) (fun _ R s => s.heap.get? l = some { cls := .type "dict", dict := dd, data := .dict es n, slots := sl } ∧ R (.ok (.ret .notImplemented)) s) :=
  .of_wp fun prog w A R s h => by
    obtain ⟨hp, g, d, tk, os⟩ := s
    obtain ⟨hl, h⟩ := h
    wp_walk using wpAny_load hl
    exact ⟨_, rfl, h⟩
theorem dict_eq_str (b : Str) (u : Tok) (l : Addr) (es : Array DictEntry) (n : Nat) (dd : Option Addr) (sl : Array (Option Value)) :
    Meets (Builtin.«dict.__eq__» ⟨[.ref l, .str b u], []⟩) (fun _ R s => s.heap.get? l = some { cls := .type "dict", dict := dd, data := .dict es n, slots := sl } ∧ R (.ok (.ret .notImplemented)) s) :=
  .of_wp fun prog w A R s h => by
    obtain ⟨hp, g, d, tk, os⟩ := s
    obtain ⟨hl, h⟩ := h
    have f1 := F.sub_str_dict
    wp_walk using wpAny_load hl
    exact ⟨_, rfl, h⟩
theorem str_is_dict {A : Around} {s : Shared} {l : Addr} {es : Array DictEntry} {n : Nat} {dd : Option Addr} {sl : Array (Option Value)} (b : Str) (u : Tok) (ho : s.heap.get? l = some { cls := .type "dict", dict := dd, data := .dict es n, slots := sl }) (hu : A.units < cLine) :
    SeqAt.EqAt A s (.str b u) (.ref l) false := fun prog w E Q h => by
  unfold eqBool
  refine wpAny_holding ?_
  refine wpAny_ite_split (fun hab => absurd (eq_of_beq hab) nofun) fun _ => ?_
  refine wpAny_bind ?_
  exact SeqAt.rc_eq_decline_or (k := false) (typeIs_str s b u) ⟨_, ho, rfl⟩ (by decide) F.sub_dict_str F.slot_str_eq F.slot_dict_eq_refl
    (fun Q2 hq => call_meets F.slot_str_eq (typeIs_str s b u) F.entry_str_eq (F.args_str_eq_2 _ _) (str_eq_dict b u l es n dd sl) ⟨ho, hq⟩)
    (fun Q2 hq => call_meets F.slot_dict_eq_refl ⟨_, ho, rfl⟩ F.entry_dict_eq (F.args_dict_eq_2 _ _) (dict_eq_str b u l es n dd sl) ⟨ho, hq⟩)
    (fun Q2 hq => wpAny_of_eq (rfl : isSame (.str b u) (.ref l) = pure false) hq) (.inr hu) (wpAny_truthy_bool h)
end
/-- is the word a text among these -/
def inWs (d : PyData) (ws : List Str) : Bool := match d with
  | .str z => decide (z ∈ ws)
  | _ => false
def eqW (d : PyData) (u : Value) : Bool := match d, u with
  | .str z, .str y _ => y == z
  | _, _ => false
section
variable {X : Cx} {pins : List (Addr × Obj)} {σ : St} {H G : Hp} {s : Shared}
theorem any_eqW : ∀ {d : PyData} {ws : List Str} {us : List Value}, Vals (ws.map V.str) us → us.any (eqW d) = inWs d ws
  | d, [], _, .nil => by
    cases d <;> simp [inWs]
  | d, w :: ws, _, .cons r t => by
    obtain ⟨tk, rfl⟩ := r
    rw [List.any_cons, any_eqW (d := d) t]
    cases d <;> simp [eqW, inWs]
    rename_i z
    by_cases h : w = z
    · subst h
      simp
    · simp [h, Ne.symm h]
theorem eq_word (hu : X.A.units + 64 < cLine) (I : Inv X pins σ H s) (sm : Same G H) {v : V} {d : PyData} {x : Value} (hd : Da X.K G v d) (rx : RelV v x) (y : Str) (t : Tok) : SeqAt.EqAt X.A.in1 s (.str y t) x (eqW d (.str y t)) := by
  have hu1 : X.A.in1.units < cLine := by show X.A.units + 1 < _; omega
  cases hd with
  | non => cases rx; exact SeqAt.EqAt.str_none y t
  | bl b => cases rx; exact SeqAt.EqAt.str_bool y t b
  | int i => obtain ⟨tk, rfl⟩ := rx; exact SeqAt.EqAt.str_int y t i tk
  | str z => obtain ⟨tk, rfl⟩ := rx; exact SeqAt.EqAt.str_str y t z tk
  | @lst a xs ds h _ =>
    cases rx
    obtain ⟨_, its, n, _, e⟩ := (show ObjOk X.prog X.w H s.heap a (.lst _) from I.hok a _ (sm _ _ h))
    exact SeqAt.EqAt.str_list y t ⟨_, e, rfl, _, rfl⟩ hu1
  | @tup a xs ds h _ =>
    cases rx
    obtain ⟨its, _, p, _⟩ := I.tuple (sameT sm h)
    exact SeqAt.EqAt.str_tuple y t p hu1
  | @dct a kvs ds h _ =>
    cases rx
    obtain ⟨o, es, n, ho, hc, hdd, _⟩ := dict_at I (sm _ _ h)
    obtain ⟨c, dd, data, sl⟩ := o
    simp only at hc hdd
    subst hc hdd
    exact str_is_dict y t ho hu1
/-- x in ws, x any data, ws a list or tuple of texts -/
def rInW (K : PySem.W.Frag) (neg : Bool) : R2 := fun x y H Q => ∃ (p : Addr) (ws : List Str) (d : PyData) (G : Hp), y = .ref p ∧ (SqL K H p (ws.map V.str) ∨ SqT K H p (ws.map V.str)) ∧ Same G H ∧ Da K G x d ∧ Q (.bl (if neg then !inWs d ws else inWs d ws)) H
theorem in_words (hu : X.A.units + 64 < cLine) (I : Inv X pins σ H s) (sm : Same G H) {v : V} {d : PyData} {x : Value} (hd : Da X.K G v d) (rx : RelV v x) : ∀ {ws : List Str} {us : List Value}, Vals (ws.map V.str) us → ∀ u ∈ us, SeqAt.EqAt X.A.in1 s u x (eqW d u)
  | [], _, .nil => fun u hu => by cases hu
  | y :: ws, u :: us, .cons r t => fun u' hu' => by
    rcases List.mem_cons.mp hu' with rfl | hu'
    · obtain ⟨tk, rfl⟩ := r
      exact eq_word hu I sm hd rx y tk
    · exact in_words hu I sm hd rx t u' hu'
theorem op_inW (hu : X.A.units + 64 < cLine) : OpR X (compareOp .In) (rInW X.K false) := by
  intro pins s σ H x y v u Q I rx ry h
  obtain ⟨p, ws, d, G, rfl, hq, sm, hd, q⟩ := h
  cases ry
  have q : Q (.bl (inWs d ws)) H := q
  rcases hq with hq | hq
  · obtain ⟨its, r, pl, _⟩ := I.list hq
    refine SeqAt.in_listAt (eqW d) pl.isList (fun z hz => in_words hu I sm hd rx r z (by simpa using hz)) ⟨.bl _, H, I, rfl, ?_⟩
    rw [show its.toArray.any (eqW d) = its.any (eqW d) by simp, any_eqW r]
    exact q
  · obtain ⟨its, r, pl, _⟩ := I.tuple hq
    refine SeqAt.in_tupleAt (eqW d) pl (fun z hz => in_words hu I sm hd rx r z (by simpa using hz)) ⟨.bl _, H, I, rfl, ?_⟩
    rw [show its.toArray.any (eqW d) = its.any (eqW d) by simp, any_eqW r]
    exact q
theorem op_notInW (hu : X.A.units + 64 < cLine) : OpR X (compareOp .NotIn) (rInW X.K true) := by
  intro pins s σ H x y v u Q I rx ry h
  obtain ⟨p, ws, d, G, rfl, hq, sm, hd, q⟩ := h
  cases ry
  have q : Q (.bl (!inWs d ws)) H := q
  rcases hq with hq | hq
  · obtain ⟨its, r, pl, _⟩ := I.list hq
    refine SeqAt.notIn_listAt (eqW d) pl.isList (fun z hz => in_words hu I sm hd rx r z (by simpa using hz)) ⟨.bl _, H, I, rfl, ?_⟩
    rw [show its.toArray.any (eqW d) = its.any (eqW d) by simp, any_eqW r]
    exact q
  · obtain ⟨its, r, pl, _⟩ := I.tuple hq
    refine SeqAt.notIn_tupleAt (eqW d) pl (fun z hz => in_words hu I sm hd rx r z (by simpa using hz)) ⟨.bl _, H, I, rfl, ?_⟩
    rw [show its.toArray.any (eqW d) = its.any (eqW d) by simp, any_eqW r]
    exact q
end

/-! ### isinstance of data -/
def tyD : PyData → String
  | .none => "NoneType"
  | .bool _ => "bool"
  | .int _ => "int"
  | .str _ => "str"
  | .list _ => "list"
  | .tuple _ => "tuple"
  | .dict _ => "dict"
def isTup : PyData → Bool
  | .tuple _ => true
  | _ => false
def isStr : PyData → Bool
  | .str _ => true
  | _ => false
def rIsiD (K : PySem.W.Frag) : List V → Hp → VK → Prop := fun xs H Q => ∃ (x : V) (d : PyData) (G : Hp), Same G H ∧ Da K G x d ∧ ((xs = [x, .ty "tuple"] ∧ Q (.bl (isTup d)) H) ∨ (xs = [x, .ty "str"] ∧ Q (.bl (isStr d)) H))
section
variable {X : Cx} {pins : List (Addr × Obj)} {σ : St} {H G : Hp} {s : Shared}
theorem kit_da (I : Inv X pins σ H s) (sm : Same G H) {v : V} {d : PyData} {u : Value} (hd : Da X.K G v d) (rv : RelV v u) : ∃ P : Heap → Prop, PySem.W.KitX X.K u (.type (tyD d)) P ∧ P s.heap ∧ u ≠ .builtin "__main__.__loader__#opaque" := by
  cases hd with
  | non => cases rv; exact ⟨_, PySem.W.kitx_none, True.intro, fun z => nomatch z⟩
  | bl b => cases rv; exact ⟨_, PySem.W.kitx_bool, True.intro, fun z => nomatch z⟩
  | int i => obtain ⟨t, rfl⟩ := rv; exact ⟨_, PySem.W.kitx_int, True.intro, fun z => nomatch z⟩
  | str x => obtain ⟨t, rfl⟩ := rv; exact ⟨_, PySem.W.kitx_str, True.intro, fun z => nomatch z⟩
  | @lst a xs ds h _ =>
    cases rv
    obtain ⟨_, its, n, _, e⟩ := (show ObjOk X.prog X.w H s.heap a (.lst _) from I.hok a _ (sm _ _ h))
    exact ⟨_, PySem.W.kitx_list, ⟨_, e, rfl⟩, fun z => nomatch z⟩
  | @tup a xs ds h _ =>
    cases rv
    obtain ⟨its, _, ⟨o, ho, hc, _⟩, _⟩ := I.tuple (sameT sm h)
    exact ⟨_, PySem.W.kitx_tuple, ⟨o, ho, hc⟩, fun z => nomatch z⟩
  | @dct a kvs ds h _ =>
    cases rv
    obtain ⟨o, es, n, ho, hc, _⟩ := dict_at I (sm _ _ h)
    exact ⟨_, PySem.W.kitx_dict, ⟨o, ho, hc⟩, fun z => nomatch z⟩
theorem kitB_tup : ∀ d : PyData, kitB (tyD d) "tuple" = some (isTup d)
  | .none => by
    show kitB "NoneType" "tuple" = some false
    decide +kernel
  | .bool _ => by
    show kitB "bool" "tuple" = some false
    decide +kernel
  | .int _ => by
    show kitB "int" "tuple" = some false
    decide +kernel
  | .str _ => by
    show kitB "str" "tuple" = some false
    decide +kernel
  | .list _ => by
    show kitB "list" "tuple" = some false
    decide +kernel
  | .tuple _ => by
    show kitB "tuple" "tuple" = some true
    decide +kernel
  | .dict _ => by
    show kitB "dict" "tuple" = some false
    decide +kernel
theorem kitB_str : ∀ d : PyData, kitB (tyD d) "str" = some (isStr d)
  | .none => by
    show kitB "NoneType" "str" = some false
    decide +kernel
  | .bool _ => by
    show kitB "bool" "str" = some false
    decide +kernel
  | .int _ => by
    show kitB "int" "str" = some false
    decide +kernel
  | .str _ => by
    show kitB "str" "str" = some true
    decide +kernel
  | .list _ => by
    show kitB "list" "str" = some false
    decide +kernel
  | .tuple _ => by
    show kitB "tuple" "str" = some false
    decide +kernel
  | .dict _ => by
    show kitB "dict" "str" = some false
    decide +kernel
theorem call_isiD : CallR X (.builtin "isinstance") (rIsiD X.K) := by
  intro pins s σ H xs us Q I r h
  obtain ⟨x, d, G, sm, hd, h⟩ := h
  rcases h with ⟨rfl, q⟩ | ⟨rfl, q⟩
  · obtain ⟨u1, u2, rfl, r1, r2⟩ := vals2 r
    cases r2
    obtain ⟨P, Z, p, hx⟩ := kit_da I sm hd r1
    exact PySem.W.kia_one Z I.kIn p (kit_ty (kitB_tup d)) hx fun tk => ⟨.bl _, H, I.tok tk, rfl, q⟩
  · obtain ⟨u1, u2, rfl, r1, r2⟩ := vals2 r
    cases r2
    obtain ⟨P, Z, p, hx⟩ := kit_da I sm hd r1
    exact PySem.W.kia_one Z I.kIn p (kit_ty (kitB_str d)) hx fun tk => ⟨.bl _, H, I.tok tk, rfl, q⟩
end

/-! ### enumerate(t), t a tuple -/
section
theorem new_enum {v : Value} {o : Obj} {HB : Heap → Prop} (B : Begins v o HB) :
    Meets (Builtin.«enumerate.__new__» ⟨[.type "enumerate", v], []⟩) (fun _ R s => HB s.heap ∧
      R (.ok (.ret (.ref (s.heap.push o).objs.size))) { s with heap := (s.heap.push o).push { cls := .type "enumerate", data := .fields #[.none, .bool false, .ref s.heap.objs.size, rawInt 0, .none, .none] } }) :=
  .of_wp fun prog w A R s h => by
    obtain ⟨hp, g, d, tk, os⟩ := s
    obtain ⟨h1, h⟩ := h
    have hsub := sub_enumerate
    have q1 : ∀ {A' : Around} {E : Value → Shared → Prop} {Q : Value → Shared → Prop}, Q (.ref hp.objs.size) ⟨hp.push o, g, d, tk, os⟩ → wpAny (model prog w) A' (pyIter v) Q E ⟨hp, g, d, tk, os⟩ :=
      fun q => B.iter prog w _ _ ⟨hp, g, d, tk, os⟩ _ h1 q
    wp_walk using q1
    refine wpAny_stack_any fun st => wpAny_pure ?_
    split
    · rename_i c _ _ _ _ _
      cases (c == Value.type "enumerate")
      · wp_walk using q1
        exact ⟨_, rfl, h⟩
      · wp_walk using q1
        exact ⟨_, rfl, h⟩
    · wp_walk using q1
      exact ⟨_, rfl, h⟩
theorem enum_of {prog : Program} {w : World} {A : Around} {E : Value → Shared → Prop} {s : Shared} {v : Value} {o : Obj} {HB : Heap → Prop} {Q : Value → Shared → Prop} (B : Begins v o HB) (h1 : HB s.heap)
    (h : ∀ h', IsEnum h' (s.heap.objs.size + 1) s.heap.objs.size 0 .none → h'.get? s.heap.objs.size = some o → h'.objs.size = s.heap.objs.size + 2 →
      (∀ b u, s.heap.get? b = some u → h'.get? b = some u) → Q (.ref (s.heap.objs.size + 1)) { s with heap := h' }) :
    wpAny (model prog w) A (call (.type "enumerate") [v]) Q E s := by
  refine callType_new F.called_enumerate (by decide) (F.typeCall_enumerate_1 _) (F.newCall_enumerate_1 _) (fun obj => F.args_object_init_2 obj _) F.entry_enumerate_new (new_enum B) ⟨h1, ?_⟩
  have hz : (s.heap.push o).objs.size = s.heap.objs.size + 1 := Heap.size_push ..
  show _ ∧ _
  rw [hz]
  have he := Heap.get?_push_size (s.heap.push o) (o := { cls := .type "enumerate", data := .fields #[.none, .bool false, .ref s.heap.objs.size, rawInt 0, .none, .none] }) rfl
  rw [hz] at he
  refine ⟨⟨_, he, rfl⟩, h _ he (Heap.get?_push_of_some _ (Heap.get?_push_size _ B.free)) (by rw [Heap.size_push, hz]) fun b u q => Heap.get?_push_of_some _ (Heap.get?_push_of_some _ q)⟩
/-- the tuple's items with their places, in new pairs -/
def Iet (K : PySem.W.Frag) (a : Addr) : It :=
  ⟨fun i H => ∃ (xs : List V) (x : V), SqT K H a xs ∧ xs[i]? = some x,
    fun i H v H' => ∃ T x, v = .ref T ∧ H T = none ∧ H' = upd H T (.tup [.int (i : Nat), x]) ∧ ∀ xs, SqT K H a xs → xs[i]? = some x,
    fun i H => ∃ xs : List V, SqT K H a xs ∧ xs.length ≤ i⟩
theorem turn_enumT {P : Program} {w : World} {K : PySem.W.Frag} {elts : List Expr} {kk : Nat} {tpos : Pos} (a e it : Addr) :
    Turn P w K (.Tuple elts kk tpos) (Iet K a) [e, it] e (fun i h => (∃ old, IsEnum h e it ((i : Nat) : Int) old) ∧ h.IsTupleIter it a i ∧ e ≠ it ∧ a ≠ it ∧ a ≠ e) where
  mem := by simp
  obj := fun i h st b hb => by
    obtain ⟨⟨old, he⟩, ⟨o, ho, hc, hd⟩, _⟩ := st
    have e' : b = e ∨ b = it := by simpa using hb
    rcases e' with z | z
    · rw [z]; exact ⟨_, he, fun v q => nomatch q⟩
    · rw [z]; exact ⟨o, ho, fun v q => by rw [hd] at q; cases q⟩
  keep := fun i h h' st k => let ⟨⟨old, he⟩, hi, hne⟩ := st; ⟨⟨old, k e (by simp) _ he⟩, hi.at fun o q => k it (by simp) o q, hne⟩
  item := by
    intro X hP hw hK hc i pins s σ H E I hf st hg
    subst hP hw hK
    obtain ⟨⟨old, he⟩, hit, hne, hai, hae⟩ := st
    obtain ⟨xs, x, hq, hx⟩ := hg
    obtain ⟨its, rv, p, hz⟩ := I.tuple hq
    obtain ⟨u, hu, ru⟩ := rv.get hx
    have hel : e < s.heap.objs.size := Heap.lt_size he
    have hil : it < s.heap.objs.size := by obtain ⟨_, q, _⟩ := hit; exact Heap.lt_size q
    have hlt : i < its.toArray.size := by
      have q := (List.getElem?_eq_some_iff.mp hu).1
      simpa using q
    refine wpAny_pyNext_enum_itemD (Draws.tuple (A := X.A.in1) (I.ok.hd hc) it a hai its.toArray) he ⟨hit, p⟩ hlt hne (fun z => by
      have z : e = it ∨ e = a := by simpa using z
      rcases z with z | z
      · exact hne z
      · exact hae z.symm) fun y h' tk hP ho hst hT hsz hk => ?_
    have ey : y = u := by
      have z : its.toArray[i]? = some y := hP
      rw [List.getElem?_toArray, hu] at z
      cases z
      rfl
    subst ey
    refine ⟨_, rfl, wpAny_letOwnedTupleGo_enum (s := { s with heap := h', toks := tk + 1 }) ho fun h'' he' sb => ?_⟩
    have hT2 : h''.get? s.heap.objs.size = some { cls := .type "tuple", data := .seq #[.int i tk, y] } := (sb.2 _ (Nat.ne_of_gt hel)).trans hT
    have new : ObjOk X.prog X.w (upd H s.heap.objs.size (.tup [.int (i : Nat), x])) h'' s.heap.objs.size (.tup [.int (i : Nat), x]) :=
      ⟨by show 2 ≤ sizeLine; decide, [.int i tk, y], .cons ⟨_, rfl⟩ (.cons ru .nil), ⟨_, hT2, rfl, _, rfl⟩⟩
    have I1 : Inv X pins σ (upd H s.heap.objs.size (.tup [.int (i : Nat), x])) { s with heap := h'', toks := tk + 1 } :=
      I.turnedNew (ch := [e, it]) (fun b ob hb q => (sb.2 b (fun z => hb (by simp [z]))).trans (hk b ob (fun z => hb (by simp [z])) (fun z => hb (by simp [z])) q)) hf (Nat.le_refl _) new
    refine ⟨.ref s.heap.objs.size, _, I1, rfl, ⟨_, x, rfl, I.hok.fresh (Nat.le_refl _), rfl, fun ys hy => by rw [I.tuple_inj hy hq]; exact hx⟩, ⟨⟨y, ?_⟩, hst.1.at fun o q => (sb.2 it (Ne.symm hne)).trans q, hne, hai, hae⟩, fun b hb => ?_⟩
    · have e1 : ((i + 1 : Nat) : Int) = (i : Int) + 1 := by omega
      rw [e1]; exact he'
    · have hb' : b < s.heap.objs.size := by
        have e' : b = e ∨ b = it := by simpa using hb
        rcases e' with z | z
        · rw [z]; exact hel
        · rw [z]; exact hil
      rw [upd_ne (Nat.ne_of_lt hb')]
      exact (hf b hb).1
  done := by
    intro X hP hw hK hc i pins s σ H E I hf st hg
    subst hP hw hK
    obtain ⟨⟨old, he⟩, hit, hne, hai, hae⟩ := st
    obtain ⟨xs, hq, hx⟩ := hg
    obtain ⟨its, rv, p, hz⟩ := I.tuple hq
    obtain ⟨f0, f1, f2, f3, f4, f5⟩ := hf it (by simp)
    have hl := rv.length
    have hh : X.A.in1.handled = none := I.ok.hd hc
    have D := Draws.tuple (prog := X.prog) (w := X.w) (A := X.A.in1) hh it a hai its.toArray
    have hT : s.TypeIs (.ref e) "enumerate" := ⟨_, he, rfl⟩
    have hx' : its.toArray[i]? = none := by simp; omega
    unfold pyNext
    refine wpAny_bind (wpAny_attempt (wpAny_callSpecial?_slot (name := Str.ofString "__next__") hT F.slot_enumerate_next
      (wpAny_call_entry F.slot_enumerate_next hT F.entry_enumerate_next ?_ (F.args_enumerate_next_1 _))))
    show wpAny _ _ (field (.ref e) 2 >>= _) _ _ _
    refine wpAny_bind (wpAny_field he rfl (x := .ref it) rfl ?_)
    refine wpAny_bind (wpAny_nextOf_tuple_end hh hit p hx' fun h' x eb ht => ?_)
    obtain ⟨o, ho, hcl⟩ := ht
    refine wpAny_bind (wpAny_isInstance (T := "StopIteration") (b := true) ⟨o, ho, hcl⟩ isSubtype_stop ?_)
    exact wpAny_pure ⟨rfl, I.turned (t' := s.toks) (fun b o hb q => eb b o hb q) f0 f1 f3 f4 f5⟩
  self := fun A i s Q E st h => let ⟨⟨_, he⟩, _⟩ := st; wpAny_pyIter_enum he h
def iEnumT (K : PySem.W.Frag) (ta : TA) : TI := fun σ H R => ta σ H fun vs H1 => ∃ a xs, vs = [.ref a] ∧ SqT K H1 a xs ∧ R (Iet K a) H1
theorem pi_enumT {X : Cx} {e : Expr} {ta : TA} {p pos tpos : Pos} {elts : List Expr} {kk : Nat} (hg : Gl X "enumerate") (hm : X.mg "enumerate" = none) (ha : PA X [e] ta) (hs : starEach [e] X.env = [(false, eval e X.env)] := by rfl) :
    PI X (.Tuple elts kk tpos) (.Call (.Name "enumerate" p) [e] [] pos) (iEnumT X.K ta) := by
  refine ⟨fun pins s σ H R I h => ?_⟩
  refine Call_ (ld_blt I hg hm boot_enumerate (PyProof.Rows.callWith_type1 (thn (ha.run pos pins s σ H _ I h) fun us s1 ⟨vs, H1, I1, r1, q1⟩ => ?_) hs rfl))
  obtain ⟨a, xs, rfl, hq, q⟩ := q1
  obtain ⟨u, rfl, r⟩ := vals1 r1
  cases r
  obtain ⟨its, rv, p', hz⟩ := I1.tuple hq
  have hlt : a < s1.heap.objs.size := p'.lt
  refine enum_of (begins_tuple a its.toArray) p' fun h' he hit hsz hk => wpAny_pyIter_enum he ?_
  have I2 : Inv X pins σ H1 { s1 with heap := h' } := I1.kept (t' := s1.toks) hk
  refine ⟨s1.heap.objs.size + 1, [s1.heap.objs.size + 1, s1.heap.objs.size], _, _, H1, rfl, I2, turn_enumT a (s1.heap.objs.size + 1) s1.heap.objs.size, ⟨⟨.none, he⟩, ⟨_, hit, rfl, rfl⟩, Nat.succ_ne_self _, Nat.ne_of_lt hlt, Nat.ne_of_lt (Nat.lt_succ_of_lt hlt)⟩, fun b hb => ?_, q⟩
  have e' : b = s1.heap.objs.size + 1 ∨ b = s1.heap.objs.size := by simpa using hb
  have hle : s1.heap.objs.size ≤ b := by
    rcases e' with z | z
    · rw [z]; exact Nat.le_add_right _ _
    · rw [z]; exact Nat.le_refl _
  exact I1.fpOk hle (I1.hok.fresh hle)
/-- for i, x in enumerate(t): the tuple stands, the pair is new -/
theorem for_enumT {K : PySem.W.Frag} {a : Addr} {xs : List V} {g : TG} {tb : TS} {D : Ends} {σ : St} {H : Hp} (Pv : Nat → St → Hp → Prop) (h0 : Pv 0 σ H) (hl : ∀ i σ H, i ≤ xs.length → Pv i σ H → SqT K H a xs)
    (hs : ∀ (i : Nat) (x : V) (T : Addr) (σ : St) (H : Hp), xs[i]? = some x → Pv i σ H → H T = none → g (.ref T) σ (upd H T (.tup [.int (i : Nat), x])) fun σ2 H2 => tb { D with nx := Pv (i + 1), ct := Pv (i + 1), bk := D.nx } σ2 H2)
    (hd : ∀ σ H, Pv xs.length σ H → D.nx σ H) : ∃ W : Nat → Nat → St → Hp → Prop, (∃ m, W 0 m σ H) ∧ ∀ i m σ H, W i m σ H →
      ((Iet K a).stop i H ∧ D.nx σ H) ∨ ((Iet K a).go i H ∧ ∃ N : St → Hp → Prop, (∀ σ2 H2, N σ2 H2 → ∃ m2, m2 < m ∧ W (i + 1) m2 σ2 H2) ∧ ∀ x H2, (Iet K a).yld i H x H2 → g x σ H2 fun σ3 H3 => tb { D with nx := N, ct := N, bk := D.nx } σ3 H3) := by
  refine ⟨fun i m σ H => m = xs.length - i ∧ i ≤ xs.length ∧ Pv i σ H, ⟨xs.length, by simp, Nat.zero_le _, h0⟩, ?_⟩
  rintro i m σ H ⟨rfl, hi, p⟩
  have q := hl i σ H hi p
  rcases Nat.lt_or_ge i xs.length with hlt | hge
  · refine .inr ⟨⟨xs, xs[i], q, by simp [hlt]⟩, Pv (i + 1), fun σ2 H2 p2 => ⟨xs.length - (i + 1), by omega, rfl, hlt, p2⟩, fun x H2 y => ?_⟩
    obtain ⟨T, z, rfl, hT, rfl, y⟩ := y
    exact hs i z T σ H (y xs q) p hT
  · have e : i = xs.length := by omega
    subst e
    exact .inl ⟨⟨xs, q, Nat.le_refl _⟩, hd σ H p⟩
end
end L2.Hx

/-! Defs of the text as promises; the law's deck beside a part G of the heap that never changes. -/
namespace L2.Hx
open PySem PySem.Spec PyProof.Rows

/-- a def of the text, where it stands -/
structure Src (K : PySem.W.Frag) (mg : Str → Option Value) (x : Str) (st : Stmt) (ps : List Str) (f : Addr) (fd : FuncData) : Prop where
  fn : Fun K x x st f fd
  at_ : mg x = some (.ref f)
  bd : Binds K fd ps []
/-- a def with its promise -/
structure Df (P : Program) (w : World) (K : PySem.W.Frag) (mg : Str → Option Value) (base : Heap) (k : Nat) (x : Str) (ps : List Str) (sp : Sp) : Prop where
  ex : ∃ (f : Addr) (fd : FuncData), FnG P w K mg base CX0 k f fd ps sp ∧ mg x = some (.ref f) ∧ PySem.W.keepIn K (.ref f) = true ∧ Binds K fd ps []
section
variable {P : Program} {w : World} {K : PySem.W.Frag} {mg : Str → Option Value} {base : Heap} {k : Nat} {x : Str} {ps : List Str} {sp : Sp}
theorem Df.mk' {st : Stmt} {N : List Str} {f : Addr} {fd : FuncData} (S : Src K mg x st ps f fd) (sc : FnScope N ps (defScope st)) (hn : ∀ vs H Q E, sp vs H Q E → vs.length = ps.length)
    (hbody : ∀ (cdv : Value) (A : Around) (outer : List Env) (s : Shared) (H : Hp) (vs : List V) (Q : VK) (E : XK), (A.deeper (envOfC x (defScope st) s.heap.objs.size f cdv)).guards = some [] → Room k (A.deeper (envOfC x (defScope st) s.heap.objs.size f cdv)) → sp vs H Q E →
      ∃ t, PSs (cxOf CX0 P w K mg base N x (defScope st) f cdv A outer s H E).nox (defBody st) t ∧ t { nx := fun _ H' => Q .non H', rt := Q } (start N vs) H) : Df P w K mg base (k + 1) x ps sp :=
  ⟨f, fd, okG S.fn sc hn hbody, S.at_, S.fn.kp, S.bd⟩
/-- a def with its promise and its text -/
def DfS (P : Program) (w : World) (K : PySem.W.Frag) (mg : Str → Option Value) (base : Heap) (k : Nat) (x : Str) (st : Stmt) (ps : List Str) (sp : Sp) : Prop := ∃ (f : Addr) (fd : FuncData), FnG P w K mg base CX0 k f fd ps sp ∧ Src K mg x st ps f fd
theorem DfS.mk' {st : Stmt} {N : List Str} {f : Addr} {fd : FuncData} (S : Src K mg x st ps f fd) (sc : FnScope N ps (defScope st)) (hn : ∀ vs H Q E, sp vs H Q E → vs.length = ps.length)
    (hbody : ∀ (cdv : Value) (A : Around) (outer : List Env) (s : Shared) (H : Hp) (vs : List V) (Q : VK) (E : XK), (A.deeper (envOfC x (defScope st) s.heap.objs.size f cdv)).guards = some [] → Room k (A.deeper (envOfC x (defScope st) s.heap.objs.size f cdv)) → sp vs H Q E →
      ∃ t, PSs (cxOf CX0 P w K mg base N x (defScope st) f cdv A outer s H E).nox (defBody st) t ∧ t { nx := fun _ H' => Q .non H', rt := Q } (start N vs) H) : DfS P w K mg base (k + 1) x st ps sp := ⟨f, fd, okG S.fn sc hn hbody, S⟩
theorem DfS.df {st : Stmt} (D : DfS P w K mg base k x st ps sp) : Df P w K mg base k x ps sp := let ⟨f, fd, a, S⟩ := D; ⟨f, fd, a, S.at_, S.fn.kp, S.bd⟩
/-- .. by keywords -/
theorem DfS.kw {st : Stmt} {ks : List Str} {g : {α : Type} → List α → List α} (D : DfS P w K mg base k x st ps sp) (h : ∀ (kV doc pm : Value) (an : Option Addr) (cdv ct : Value) (ws : List Value), ws.length = ps.length → bindArgs (PySem.W.fnOf x x (defArgs st) (defBody st) (defScope st) .none kV doc pm an cdv ct) ⟨[], ks.zip ws⟩ = pure (ps.zip (g ws))) :
    ∃ f fd, FnG P w K mg base CX0 k f fd ps sp ∧ mg x = some (.ref f) ∧ PySem.W.keepIn K (.ref f) = true ∧ KwBinds K fd ps ks g := by
  obtain ⟨f, fd, a, S⟩ := D
  refine ⟨f, fd, a, S.at_, S.fn.kp, ?_⟩
  obtain ⟨oc, od, kV, doc, pm, an, cdv, ct, osl, rfl, lk, hcd⟩ := S.fn.ex
  exact fun s ws _ hl => .of_eq (h kV doc pm an cdv ct ws hl)
theorem Df.mono {j : Nat} (F : Df P w K mg base j x ps sp) (h : j ≤ k) : Df P w K mg base k x ps sp := let ⟨f, fd, a, b, c, d⟩ := F.ex; ⟨f, fd, a.mono h, b, c, d⟩
theorem Df.imp {sp' : Sp} (F : Df P w K mg base k x ps sp) (h : ∀ vs H Q E, sp' vs H Q E → sp vs H Q E) : Df P w K mg base k x ps sp' := let ⟨f, fd, a, b, c, d⟩ := F.ex; ⟨f, fd, a.imp h, b, c, d⟩
end
section
variable {X : Cx} {k j : Nat} {x : Str} {ps : List Str} {sp : Sp} {p pos : Pos} {e : Expr} {es : List Expr} {t : TA}
theorem pe_d (F : Df X.prog X.w X.K X.mg X.base k x ps sp) (hgd : X.A.guards = some []) (hr : Room j X.A) (ha : PA X (e :: es) t) (hj : k ≤ j := by first | exact Nat.le_refl _ | decide) (hg : Gl X x := by rfl)
    (hdb : (x == ("__debug__" : Str)) = false := by decide) (he : starEach (e :: es) X.env = (false, eval e X.env) :: starEach es X.env := by rfl) (hpl : (backTo pos (starEach es X.env)).any (·.1) = false := by rfl) :
    PE X (.Call (.Name x p) (e :: es) [] pos) (tCall sp [] E0 t) := by
  obtain ⟨f, fd, a, b, c, d⟩ := F.ex
  exact pe_g a hgd (hr.mono hj) hg b c d .nil pass0 ha hdb he hpl
theorem pe_d0 (F : Df X.prog X.w X.K X.mg X.base k x ps sp) (hgd : X.A.guards = some []) (hr : Room j X.A) (hj : k ≤ j := by first | exact Nat.le_refl _ | decide) (hg : Gl X x := by rfl) (hdb : (x == ("__debug__" : Str)) = false := by decide) :
    PE X (.Call (.Name x p) [] [] pos) (tCall sp [] E0 tNil) := by
  obtain ⟨f, fd, a, b, c, d⟩ := F.ex
  exact pe_g0 a hgd (hr.mono hj) hg b c d .nil pass0 hdb
end

/-! ### the stock: a list of the list of great numbers, the list of all of them, their sum, a count -/
structure DeckM where
  at_ : Addr
  all : List Int
  sum : Int
def deckL (l : Addr) (m : DeckM) (t : Int) : List V := [.ref l, .ref m.at_, .int m.sum, .int t]
/-- all numbers stand, and there is one -/
structure DeckM.In (m : DeckM) (G : Hp) : Prop where
  has : G m.at_ = some (.lst (m.all.map V.int))
  pos : 0 < m.all.length
  few : m.all.length ≤ 64
theorem DeckM.In.mono {m : DeckM} {G G' : Hp} (h : m.In G) (s : Same G G') : m.In G' := ⟨s _ _ h.has, h.pos, h.few⟩
/-- the deck stands at p with its list at l; G, which tracks neither, is a part of H -/
structure Wd (p l : Addr) (G H : Hp) : Prop where
  same : Same G H
  gp : G p = none
  gl : G l = none
  dk : ∃ (m : DeckM) (t : Int), m.In G ∧ 0 ≤ t ∧ H p = some (.lst (deckL l m t))
  ls : ∃ ns : List Int, ns.length ≤ 63 ∧ H l = some (.lst (ns.map V.int))
theorem Wd.ne {p l : Addr} {G H : Hp} (W : Wd p l G H) : p ≠ l := by
  obtain ⟨m, t, _, _, h1⟩ := W.dk
  obtain ⟨ns, _, h2⟩ := W.ls
  intro e
  rw [e, h2] at h1
  have e2 : ns.map V.int = deckL l m t := by
    injection (Option.some.inj h1)
  cases ns with
  | nil => cases e2
  | cons n ns =>
    injection e2 with e3
    cases e3
theorem Wd.np {p l : Addr} {G H : Hp} (W : Wd p l G H) {a : Addr} (h : H a = none) : a ≠ p := by
  obtain ⟨_, _, _, _, h1⟩ := W.dk
  intro e
  rw [e, h1] at h
  cases h
theorem Wd.nl {p l : Addr} {G H : Hp} (W : Wd p l G H) {a : Addr} (h : H a = none) : a ≠ l := by
  obtain ⟨_, _, h1⟩ := W.ls
  intro e
  rw [e, h1] at h
  cases h
/-- from one state to a later one: the deck may have been drawn from, G may have grown by new objects -/
structure Ext (p l : Addr) (G H G' H' : Hp) : Prop where
  w : Wd p l G' H'
  sub : Same G G'
  keep : ∀ b o, b ≠ p → b ≠ l → H b = some o → H' b = some o
  new : ∀ b o, H b = some o → G b = none → G' b = none
section
variable {p l : Addr} {G H G1 H1 G2 H2 : Hp}
theorem Ext.refl (W : Wd p l G H) : Ext p l G H G H := ⟨W, Same.refl G, fun _ _ _ _ h => h, fun _ _ _ h => h⟩
theorem Ext.trans (a : Ext p l G H G1 H1) (W : Wd p l G H) (b : Ext p l G1 H1 G2 H2) : Ext p l G H G2 H2 :=
  ⟨b.w, a.sub.trans b.sub, fun c o n1 n2 h => b.keep c o n1 n2 (a.keep c o n1 n2 h), fun c o h g => by
    have g1 := a.new c o h g
    by_cases n1 : c = p
    · subst n1; exact b.w.gp
    · by_cases n2 : c = l
      · subst n2; exact b.w.gl
      · exact b.new c o (a.keep c o n1 n2 h) g1⟩
/-- a new object, kept in G -/
theorem Wd.put (W : Wd p l G H) {a : Addr} {o : HO} (h : H a = none) : Ext p l G H (upd G a o) (upd H a o) := by
  have ga : G a = none := W.same.free h
  have np := W.np h
  have nl := W.nl h
  refine ⟨⟨fun b u q => ?_, by rw [upd_ne np.symm]; exact W.gp, by rw [upd_ne nl.symm]; exact W.gl, ?_, ?_⟩, fun b u q => ?_, fun b u _ _ q => ?_, fun b u q g => ?_⟩
  · by_cases e : b = a
    · subst e; rw [upd_same] at q ⊢; exact q
    · rw [upd_ne e] at q ⊢; exact W.same b u q
  · obtain ⟨m, t, m0, m1, e⟩ := W.dk
    exact ⟨m, t, m0.mono (fun b u q => by rw [upd_ne (ne_of_none q ga)]; exact q), m1, by rw [upd_ne np.symm]; exact e⟩
  · obtain ⟨ns, z, e⟩ := W.ls
    exact ⟨ns, z, by rw [upd_ne nl.symm]; exact e⟩
  · rw [upd_ne (ne_of_none q ga)]; exact q
  · rw [upd_ne (ne_of_none q h)]; exact q
  · rw [upd_ne (ne_of_none q h)]; exact g
/-- a new object, not kept in G -/
theorem Wd.tmp (W : Wd p l G H) {a : Addr} {o : HO} (h : H a = none) : Ext p l G H G (upd H a o) := by
  have ga : G a = none := W.same.free h
  have np := W.np h
  have nl := W.nl h
  refine ⟨⟨fun b u q => ?_, W.gp, W.gl, ?_, ?_⟩, Same.refl G, fun b u _ _ q => ?_, fun b u q g => g⟩
  · rw [upd_ne (ne_of_none q ga)]; exact W.same b u q
  · obtain ⟨m, t, m0, m1, e⟩ := W.dk
    exact ⟨m, t, m0, m1, by rw [upd_ne np.symm]; exact e⟩
  · obtain ⟨ns, z, e⟩ := W.ls
    exact ⟨ns, z, by rw [upd_ne nl.symm]; exact e⟩
  · rw [upd_ne (ne_of_none q h)]; exact q
/-- an object of one's own, not in G, is changed -/
theorem Wd.own (W : Wd p l G H) {a : Addr} {o : HO} (hp : a ≠ p) (hl : a ≠ l) (hg : G a = none) : Wd p l G (upd H a o) := by
  refine ⟨fun b u q => ?_, W.gp, W.gl, ?_, ?_⟩
  · rw [upd_ne (ne_of_none q hg)]; exact W.same b u q
  · obtain ⟨m, t, m0, m1, e⟩ := W.dk
    exact ⟨m, t, m0, m1, by rw [upd_ne hp.symm]; exact e⟩
  · obtain ⟨ns, z, e⟩ := W.ls
    exact ⟨ns, z, by rw [upd_ne hl.symm]; exact e⟩
/-- an object of one's own is kept from now on -/
theorem Wd.hold (W : Wd p l G H) {a : Addr} {o : HO} (hp : a ≠ p) (hl : a ≠ l) (hg : G a = none) (h : H a = some o) : Wd p l (upd G a o) H ∧ Same G (upd G a o) := by
  have sG : Same G (upd G a o) := fun b u q => by
    rw [upd_ne (ne_of_none q hg)]
    exact q
  refine ⟨⟨fun b u q => ?_, by rw [upd_ne hp.symm]; exact W.gp, by rw [upd_ne hl.symm]; exact W.gl, let ⟨m, t, m0, m1, e⟩ := W.dk; ⟨m, t, m0.mono sG, m1, e⟩, W.ls⟩, fun b u q => ?_⟩
  · by_cases e : b = a
    · subst e; rw [upd_same] at q; rw [← q]; exact h
    · rw [upd_ne e] at q; exact W.same b u q
  · rw [upd_ne (ne_of_none q hg)]; exact q
end
end L2.Hx

/-! How long the text of data can be. -/
namespace L2.Hx
open PySem PySem.Spec PyProof.Rows
mutual
def okB : PyData → Bool
  | .none | .bool _ => true
  | .int i => decide (i.natAbs.log2 < 1920)
  | .str x => x.cps.toList.all fun c => decide (c < 1114112)
  | .list xs | .tuple xs => okAll xs
  | .dict kvs => okKv kvs
def okAll : List PyData → Bool
  | [] => true
  | x :: xs => okB x && okAll xs
def okKv : List (PyData × PyData) → Bool
  | [] => true
  | (k, v) :: r => okB k && okB v && okKv r
end
mutual
/-- no less than the signs of its text -/
def siz : PyData → Nat
  | .none | .bool _ => 5
  | .int _ => 1921
  | .str x => 10 * x.length + 2
  | .list xs | .tuple xs => sizAll xs + 3
  | .dict kvs => sizKv kvs + 2
def sizAll : List PyData → Nat
  | [] => 0
  | x :: xs => siz x + 2 + sizAll xs
def sizKv : List (PyData × PyData) → Nat
  | [] => 0
  | (k, v) :: r => siz k + siz v + 4 + sizKv r
end
theorem okAll_of : ∀ {xs : List PyData}, (∀ x ∈ xs, okB x = true) → okAll xs = true
  | [], _ => rfl
  | x :: xs, h => by
    rw [okAll, h x List.mem_cons_self, okAll_of fun y m => h y (List.mem_cons_of_mem _ m)]
    rfl
theorem sizAll_le {n : Nat} : ∀ {xs : List PyData}, (∀ x ∈ xs, siz x ≤ n) → sizAll xs ≤ (n + 2) * xs.length
  | [], _ => by simp [sizAll]
  | x :: xs, h => by
    have h1 := h x List.mem_cons_self
    have h2 := sizAll_le fun y m => h y (List.mem_cons_of_mem x m)
    rw [sizAll, List.length_cons, Nat.mul_add, Nat.mul_one]
    omega
theorem depthAll_le {n : Nat} : ∀ {xs : List PyData}, (∀ x ∈ xs, x.depth ≤ n) → PyData.depthAll xs ≤ n
  | [], _ => by simp [PyData.depthAll]
  | x :: xs, h => by
    have h1 := h x List.mem_cons_self
    have h2 := depthAll_le fun y m => h y (List.mem_cons_of_mem x m)
    rw [PyData.depthAll]
    omega
theorem textFrom0 (ts : List Str) (acc : Str) : (textFrom 0 acc ts).length ≤ acc.length + piled ts := by
  have h := textFrom_len ts 0 acc
  cases ts with
  | nil => exact Nat.le_add_right _ _
  | cons t r =>
    show (textFrom 1 (acc ++ t) r).length ≤ _
    rw [textFrom_length_pos r 1 (acc ++ t) Nat.one_pos, strLen_append, piled_cons]
    omega
theorem listText_le (ts : List Str) : (listText ts).length ≤ piled ts + 2 := by
  have h := textFrom0 ts "["
  unfold listText
  rw [strLen_append]
  have e1 : (("[" : Str)).length = 1 := rfl
  have e2 : (("]" : Str)).length = 1 := rfl
  omega
theorem dictText_le (ts : List Str) : (dictText ts).length ≤ piled ts + 2 := by
  have e1 : (("{" : Str)).length = 1 := rfl
  have e2 : (("}" : Str)).length = 1 := rfl
  unfold dictText
  rw [strLen_append, strLen_append]
  by_cases h : ts = []
  · subst h
    decide +kernel
  · have := join_length_add ts h
    omega
theorem int_len {i : Int} (h : i.natAbs.log2 < 1920) : (Str.ofString (toString i)).length ≤ 1921 := by
  have e := int_text_length_le (k := 1920) (by decide) h
  rw [PySem.ofString_length]
  omega
mutual
theorem ok_show : ∀ {d : PyData}, okB d = true → d.showable = true ∧ d.shown.length ≤ siz d
  | .none, _ => ⟨rfl, by simp only [PyData.shown, siz]; decide⟩
  | .bool b, _ => ⟨rfl, by simp only [PyData.shown, siz]; cases b <;> decide⟩
  | .int i, h => ⟨by simpa [PyData.showable, okB] using h, by simp only [PyData.shown, siz]; exact int_len (by simpa [okB] using h)⟩
  | .str x, h => ⟨rfl, by
      simp only [PyData.shown, siz]
      rw [okB, List.all_eq_true] at h
      exact StrLaws.reprText_len x fun c m => Nat.lt_trans (of_decide_eq_true (h c m)) (by decide)⟩
  | .list xs, h => by
    obtain ⟨a, b⟩ := ok_showAll (xs := xs) (by simpa [okB] using h)
    refine ⟨by simpa [PyData.showable] using a, ?_⟩
    simp only [PyData.shown, siz]
    exact Nat.le_trans (listText_le _) (by omega)
  | .tuple xs, h => by
    obtain ⟨a, b⟩ := ok_showAll (xs := xs) (by simpa [okB] using h)
    refine ⟨by simpa [PyData.showable] using a, ?_⟩
    simp only [PyData.shown, siz]
    exact Nat.le_trans (fmt_text _) (by omega)
  | .dict kvs, h => by
    obtain ⟨a, b⟩ := ok_showKv (kvs := kvs) (by simpa [okB] using h)
    refine ⟨by simpa [PyData.showable] using a, ?_⟩
    simp only [PyData.shown, siz]
    exact Nat.le_trans (dictText_le _) (by omega)
theorem ok_showAll : ∀ {xs : List PyData}, okAll xs = true → PyData.showableAll xs = true ∧ piled (PyData.shownAll xs) ≤ sizAll xs
  | [], _ => ⟨rfl, by simp [PyData.shownAll, piled_nil]⟩
  | x :: xs, h => by
    rw [okAll, Bool.and_eq_true] at h
    obtain ⟨a, b⟩ := ok_show h.1
    obtain ⟨c, d⟩ := ok_showAll h.2
    refine ⟨by rw [PyData.showableAll, a, c]; rfl, ?_⟩
    rw [PyData.shownAll, piled_cons, sizAll]
    omega
theorem ok_showKv : ∀ {kvs : List (PyData × PyData)}, okKv kvs = true → PyData.showableKv kvs = true ∧ piled (PyData.shownKv kvs) ≤ sizKv kvs
  | [], _ => ⟨rfl, by simp [PyData.shownKv, piled_nil]⟩
  | (k, v) :: r, h => by
    rw [okKv, Bool.and_eq_true, Bool.and_eq_true] at h
    obtain ⟨a, b⟩ := ok_show h.1.1
    obtain ⟨a2, b2⟩ := ok_show h.1.2
    obtain ⟨c, d⟩ := ok_showKv h.2
    refine ⟨by rw [PyData.showableKv, a, a2, c]; rfl, ?_⟩
    rw [PyData.shownKv, piled_cons, sizKv, strLen_append, strLen_append]
    have e1 : ((": " : Str)).length = 2 := rfl
    omega
end
/-- data that repr can tell: at most k deep, of a text of at most n signs -/
structure Okd (k n : Nat) (d : PyData) : Prop where
  ok : okB d = true
  dp : d.depth ≤ k
  sz : siz d ≤ n
theorem Okd.mono {k n k2 n2 : Nat} {d : PyData} (h : Okd k n d) (hk : k ≤ k2 := by decide) (hn : n ≤ n2 := by decide) : Okd k2 n2 d := ⟨h.ok, Nat.le_trans h.dp hk, Nat.le_trans h.sz hn⟩
theorem Okd.tup {k n m N : Nat} {ds : List PyData} (h : ∀ d ∈ ds, Okd k n d) (hl : ds.length ≤ m) (hN : (n + 2) * m + 3 ≤ N := by decide) : Okd (k + 1) N (.tuple ds) := by
  refine ⟨okAll_of fun d hd => (h d hd).ok, ?_, ?_⟩
  · have := depthAll_le fun d hd => (h d hd).dp
    simp only [PyData.depth]
    omega
  · have h1 := sizAll_le fun d hd => (h d hd).sz
    have h2 : (n + 2) * ds.length ≤ (n + 2) * m := Nat.mul_le_mul_left _ hl
    show sizAll ds + 3 ≤ N
    omega
theorem Okd.list {k n m N : Nat} {ds : List PyData} (h : ∀ d ∈ ds, Okd k n d) (hl : ds.length ≤ m) (hN : (n + 2) * m + 3 ≤ N := by decide) : Okd (k + 1) N (.list ds) := by
  have a := Okd.tup h hl hN
  exact ⟨a.ok, a.dp, a.sz⟩
theorem Okd.kids {k n : Nat} {ds : List PyData} (h : Okd (k + 1) n (.tuple ds)) : ∀ d ∈ ds, Okd k n d := by
  have h1 : okAll ds = true := h.ok
  have h2 : PyData.depthAll ds ≤ k := by
    have := h.dp
    simp only [PyData.depth] at this
    omega
  have h3 : sizAll ds ≤ n := by
    have := h.sz
    rw [siz] at this
    omega
  clear h
  induction ds with
  | nil => intro d hd; cases hd
  | cons x xs ih =>
    rw [okAll, Bool.and_eq_true] at h1
    rw [PyData.depthAll] at h2
    rw [sizAll] at h3
    intro d hd
    rcases List.mem_cons.mp hd with rfl | hd
    · exact ⟨h1.1, by omega, by omega⟩
    · exact ih h1.2 (by omega) (by omega) d hd
theorem Okd.shown {k n : Nat} {d : PyData} (h : Okd k n d) (hk : k ≤ 60) (hn : n ≤ sizeLine) : d.showable = true ∧ d.depth ≤ 60 ∧ d.shown.length ≤ sizeLine :=
  let ⟨a, b⟩ := ok_show h.ok
  ⟨a, Nat.le_trans h.dp hk, Nat.le_trans b (Nat.le_trans h.sz hn)⟩
end L2.Hx

/-! What a saying is, twice: as the program looks, and as the law does. -/
namespace L2.Hx
open PySem PySem.Spec PyProof.Rows
def w_WORDS : List Str := ["nil", "result", "fun", "head", "foot", "with", "var", "if", "else", "while", "keep", "new", "free", "any", "cell", "list", "empty", "is", "isnt"]
def w_LOOK_WORDS : List Str := ["is", "isnt"]
def w_PART_WORDS : List Str := ["cell", "list"]
def w_nr : List Str := ["nil", "result"]
def abc : List Nat := ("abcdefghijklmnopqrstuvwxyz" : Str).cps.toList
def letters (z : Str) : Bool := z.cps.toList.all fun c => decide (c ∈ abc)
def lenOk (z : Str) : Bool := decide (1 ≤ (z.length : Int)) && decide ((z.length : Int) ≤ 8)
def nameP (d : PyData) : Bool := match d with
  | .str z => lenOk z && (!decide (z ∈ w_WORDS) && letters z)
  | _ => false
def termP (d : PyData) : Bool := inWs d w_nr || nameP d
def termL (d : PyData) : Bool := match d with
  | .str z => lenOk z && (letters z && (decide (z ∈ w_nr) || !decide (z ∈ w_WORDS)))
  | _ => false
theorem term_eq (d : PyData) : termP d = termL d := by
  cases d with
  | str z =>
    by_cases h : z ∈ w_nr
    · rcases List.mem_cons.mp h with e | h2
      · subst e
        decide +kernel
      · rcases List.mem_cons.mp h2 with e | h3
        · subst e
          decide +kernel
        · cases h3
    · have e1 : decide (z ∈ w_nr) = false := decide_eq_false h
      show (decide (z ∈ w_nr) || (lenOk z && (!decide (z ∈ w_WORDS) && letters z))) = (lenOk z && (letters z && (decide (z ∈ w_nr) || !decide (z ∈ w_WORDS))))
      rw [e1, Bool.false_or, Bool.false_or]
      cases lenOk z <;> cases letters z <;> cases decide (z ∈ w_WORDS) <;> rfl
  | _ => rfl
def rowD (ws : List Str) (d : PyData) : Bool := match d with
  | .tuple [a, b, c] => inWs a ws && (termL b && termL c)
  | _ => false
def rowsD (ws : List Str) (most : Int) (d : PyData) : Bool := match d with
  | .tuple ds => decide ((ds.length : Int) ≤ most) && ds.all (rowD ws)
  | _ => false
def clauseD (d : PyData) : Bool := match d with
  | .tuple [a, b] => rowsD w_LOOK_WORDS 30 a && rowsD w_PART_WORDS 8 b
  | _ => false
/-- from the i-th item on -/
def dueFrom (i : Nat) : List PyData → PyData
  | [] => .none
  | d :: ds => if clauseD d then dueFrom (i + 1) ds else .tuple [.str "clause", .int i]
def dueD (d : PyData) : PyData := match d with
  | .tuple ds => if 1 ≤ ds.length ∧ ds.length ≤ 64 then dueFrom 0 ds else .str "form"
  | _ => .str "form"
theorem dueFrom_ok : ∀ (ds : List PyData) (i : Nat), (∀ d ∈ ds, clauseD d = true) → dueFrom i ds = .none
  | [], _, _ => rfl
  | d :: ds, i, h => by
    rw [dueFrom, if_pos (h d List.mem_cons_self)]
    exact dueFrom_ok ds (i + 1) fun e m => h e (List.mem_cons_of_mem _ m)
theorem dueFrom_okd : ∀ (ds : List PyData) (i : Nat), i + ds.length ≤ 100 → Okd 1 5000 (dueFrom i ds)
  | [], i, _ => ⟨rfl, by simp [dueFrom, PyData.depth], by show 5 ≤ 5000; decide⟩
  | d :: ds, i, h => by
    rw [List.length_cons] at h
    rw [dueFrom]
    split
    · exact dueFrom_okd ds (i + 1) (by omega)
    · have h1 : okB (.int (i : Int)) = true := by
        rw [okB]
        refine decide_eq_true ?_
        have h7 : (i : Int).natAbs < 2 ^ 7 := by omega
        exact Nat.lt_trans (PySem.Flt.log2_lt_of (by decide) h7) (by decide)
      have h2 : okB (.str "clause") = true := by decide +kernel
      refine ⟨by rw [okB, okAll, okAll, okAll, h1, h2]; rfl, by simp [PyData.depth, PyData.depthAll], ?_⟩
      show siz (.str "clause") + 2 + (1921 + 2 + 0) + 3 ≤ 5000
      have : siz (.str "clause") = 62 := by decide +kernel
      omega
theorem due_okd (d : PyData) : Okd 1 5000 (dueD d) := by
  have hf : Okd 1 5000 (.str "form") := ⟨by decide +kernel, by simp [PyData.depth], by decide +kernel⟩
  cases d with
  | tuple ds =>
    show Okd 1 5000 (if 1 ≤ ds.length ∧ ds.length ≤ 64 then dueFrom 0 ds else .str "form")
    split
    · exact dueFrom_okd ds 0 (by omega)
    · exact hf
  | _ => exact hf
/-- the size of an item -/
theorem siz_kid {d : PyData} : ∀ {ds : List PyData}, d ∈ ds → siz d ≤ siz (.tuple ds) := by
  intro ds h
  rw [siz]
  induction ds with
  | nil => cases h
  | cons x xs ih =>
    rw [sizAll]
    rcases List.mem_cons.mp h with rfl | h
    · omega
    · have := ih h
      omega
/-- data that the looks take -/
structure Fit (d : PyData) : Prop where
  ok : okB d = true
  sz : siz d ≤ sizeLine
theorem okAll_mem {d : PyData} : ∀ {ds : List PyData}, okAll ds = true → d ∈ ds → okB d = true
  | x :: xs, h, m => by
    rw [okAll, Bool.and_eq_true] at h
    rcases List.mem_cons.mp m with rfl | m
    · exact h.1
    · exact okAll_mem h.2 m
theorem Fit.kid {d : PyData} {ds : List PyData} (h : Fit (.tuple ds)) (m : d ∈ ds) : Fit d :=
  ⟨okAll_mem (show okAll ds = true from h.ok) m, Nat.le_trans (siz_kid m) h.sz⟩
theorem siz_len : ∀ ds : List PyData, ds.length ≤ siz (.tuple ds) := by
  intro ds
  rw [siz]
  induction ds with
  | nil => simp
  | cons x xs ih =>
    rw [sizAll, List.length_cons]
    omega
theorem siz_str (z : Str) : z.length ≤ siz (.str z) := by
  rw [siz]
  omega
end L2.Hx

/-! Expressions that lay data: what they come to, by its size. -/
namespace L2.Hx
open PySem PySem.Spec PyProof.Rows

/-! ### t != () -/
def rNeNil (K : PySem.W.Frag) : R2 := fun x y H Q => ∃ a b xs, x = .ref a ∧ y = .ref b ∧ SqT K H a xs ∧ SqT K H b [] ∧ Q (.bl (!xs.isEmpty)) H
theorem op_neNil {X : Cx} (hu : X.A.units + 64 < cLine) : OpR X (compareOp .NotEq) (rNeNil X.K) := by
  intro pins s σ H x y v u Q I rx ry h
  obtain ⟨a, b, xs, rfl, rfl, ha, hb, q⟩ := h
  cases rx
  cases ry
  obtain ⟨its, r1, p1, _⟩ := I.tuple ha
  obtain ⟨its2, r2, p2, _⟩ := I.tuple hb
  cases r2
  refine SeqAt.RcNeAt.tuples (e := fun _ => true) p1 p2 (by omega) (fun j h1 h2 => absurd h2 (by simp)) _ _ _ _ ⟨.bl _, H, I, rfl, ?_⟩
  have hl := r1.length
  have e : (!((List.range (min its.toArray.size ([] : List Value).toArray.size)).all (fun _ => true) && its.toArray.size == ([] : List Value).toArray.size)) = !xs.isEmpty := by
    cases xs with
    | nil =>
      cases r1
      rfl
    | cons x xs =>
      cases r1
      rfl
  rw [e]
  exact q

/-- all m of at most these depths and sizes -/
def All (k n m : Nat) (ds : List PyData) : Prop := ds.length = m ∧ ∀ d ∈ ds, Okd k n d
/-- a tuple of at most m such -/
def Tp (k n m : Nat) (d : PyData) : Prop := ∃ ds, d = .tuple ds ∧ ds.length ≤ m ∧ ∀ x ∈ ds, Okd k n x
/-- a list of at most m such, not empty -/
def Ls (k n m : Nat) (d : PyData) : Prop := ∃ ds, d = .list ds ∧ 0 < ds.length ∧ ds.length ≤ m ∧ ∀ x ∈ ds, Okd k n x
theorem Tp.okd {k n m N : Nat} {d : PyData} (h : Tp k n m d) (hN : (n + 2) * m + 3 ≤ N := by decide) : Okd (k + 1) N d := by
  obtain ⟨ds, rfl, hl, h⟩ := h
  exact Okd.tup h hl hN
theorem Ls.okd {k n m N : Nat} {d : PyData} (h : Ls k n m d) (hN : (n + 2) * m + 3 ≤ N := by decide) : Okd (k + 1) N d := by
  obtain ⟨ds, rfl, _, hl, h⟩ := h
  exact Okd.list h hl hN
theorem Tp.mono {k n m k2 n2 m2 : Nat} {d : PyData} (h : Tp k n m d) (hk : k ≤ k2 := by decide) (hn : n ≤ n2 := by decide) (hm : m ≤ m2 := by decide) : Tp k2 n2 m2 d := by
  obtain ⟨ds, rfl, hl, h⟩ := h
  exact ⟨ds, rfl, Nat.le_trans hl hm, fun x m => (h x m).mono hk hn⟩
theorem Okd.tp {k n : Nat} {ds : List PyData} (h : Okd (k + 1) n (.tuple ds)) {m : Nat} (hl : ds.length ≤ m) : Tp k n m (.tuple ds) := ⟨ds, rfl, hl, h.kids⟩

section
variable (K : PySem.W.Frag) (p l : Addr) (σ : St) (G : Hp)
/-- whatever the heap, what comes is such data; the deck may be drawn from -/
def TD (t : TE) (φ : PyData → Prop) : Prop := ∀ (G1 H : Hp) (Q : VK), Wd p l G1 H → Same G G1 → (∀ v d G2 H2, Ext p l G1 H G2 H2 → Da K G2 v d → φ d → Q v H2) → t σ H Q
def TDs (t : TA) (Φ : List PyData → Prop) : Prop := ∀ (G1 H : Hp) (Q : List V → Hp → Prop), Wd p l G1 H → Same G G1 → (∀ vs ds G2 H2, Ext p l G1 H G2 H2 → DaAll K G2 vs ds → Φ ds → Q vs H2) → t σ H Q
end
/-- a slice's end -/
def TPt (σ : St) (t : TO) : Prop := ∀ (H : Hp) (Q : Option Int → Hp → Prop), (∀ o, Q o H) → t σ H Q
section
variable {K : PySem.W.Frag} {p l : Addr} {σ : St} {G : Hp} {t ta tb : TE} {tr : TA} {φ ψ : PyData → Prop} {Φ : List PyData → Prop} {k n m : Nat}
theorem TD.imp (h : TD K p l σ G t φ) (hi : ∀ d, φ d → ψ d) : TD K p l σ G t ψ := fun G1 H Q W s k => h G1 H Q W s fun v d G2 H2 e da f => k v d G2 H2 e da (hi d f)
theorem TD.run {H : Hp} {Q : VK} (h : TD K p l σ G t φ) (W : Wd p l G H) (k : ∀ v d G2 H2, Ext p l G H G2 H2 → Da K G2 v d → φ d → Q v H2) : t σ H Q := h G H Q W (Same.refl G) k
theorem TD.asg {H : Hp} {D : Ends} {i : Nat} (h : TD K p l σ G t φ) (W : Wd p l G H) (k : ∀ v d G2 H2, Ext p l G H G2 H2 → Da K G2 v d → φ d → D.nx (σ.set i (some v)) H2) : tAsg t (gName i) D σ H := h G H _ W (Same.refl G) k
theorem TD.asgG {H : Hp} {D : Ends} {g : TG} (h : TD K p l σ G t φ) (W : Wd p l G H) (k : ∀ v d G2 H2, Ext p l G H G2 H2 → Da K G2 v d → φ d → g v σ H2 D.nx) : tAsg t g D σ H := h G H _ W (Same.refl G) k
theorem TD.ret {H : Hp} {D : Ends} (h : TD K p l σ G t φ) (W : Wd p l G H) (k : ∀ v d G2 H2, Ext p l G H G2 H2 → Da K G2 v d → φ d → D.rt v H2) : tRet t D σ H := h G H _ W (Same.refl G) k
theorem TD.flat {v : V} {d : PyData} (hd : ∀ G, Da K G v d) (hf : φ d) : TD K p l σ G (tC v) φ := fun G1 H Q W _ k => k _ _ _ _ (Ext.refl W) (hd _) hf
theorem td_str {x : Str} (h : okB (.str x) = true := by decide +kernel) (hn : siz (.str x) ≤ n := by decide +kernel) : TD K p l σ G (tC (.str x)) (Okd k n) := .flat (fun _ => .str x) ⟨h, Nat.zero_le _, hn⟩
theorem td_int {i : Int} (h : i.natAbs.log2 < 1920 := by decide) (hn : 1921 ≤ n := by decide) : TD K p l σ G (tC (.int i)) (Okd k n) := .flat (fun _ => .int i) ⟨decide_eq_true h, Nat.zero_le _, hn⟩
theorem td_non (hn : 5 ≤ n := by decide) : TD K p l σ G (tC .non) (Okd k n) := .flat (fun _ => .non) ⟨rfl, Nat.zero_le _, hn⟩
theorem td_bl {b : Bool} (hn : 5 ≤ n := by decide) : TD K p l σ G (tC (.bl b)) (Okd k n) := .flat (fun _ => .bl b) ⟨rfl, Nat.zero_le _, hn⟩
theorem td_var {i : Nat} {v : V} {d : PyData} (hi : σ[i]? = some (some v)) (hd : Da K G v d) (hf : φ d) : TD K p l σ G (tVar i) φ := fun G1 H Q W s k => ⟨v, hi, k _ _ _ _ (Ext.refl W) (hd.mono s) hf⟩
theorem tds_nil : TDs K p l σ G tNil (All k n 0) := fun G1 H Q W _ k => k _ _ _ _ (Ext.refl W) .nil ⟨rfl, fun d h => absurd h List.not_mem_nil⟩
theorem tds_cons (h : TD K p l σ G t (Okd k n)) (hr : TDs K p l σ G tr (All k n m)) : TDs K p l σ G (tCons t tr) (All k n (m + 1)) := fun G1 H Q W s k =>
  h G1 H _ W s fun v d G2 H2 e da f => hr G2 H2 _ e.w (s.trans e.sub) fun vs ds G3 H3 e3 das f3 => k _ _ _ _ (e.trans W e3) (.cons (da.mono e3.sub) das)
    ⟨by rw [List.length_cons, f3.1], fun x mx => by
      rcases List.mem_cons.mp mx with rfl | mx
      · exact f
      · exact f3.2 x mx⟩
/-- for arguments of any kinds -/
theorem tds_consP (h : TD K p l σ G t φ) (hr : TDs K p l σ G tr Φ) : TDs K p l σ G (tCons t tr) (fun ds => ∃ d r, ds = d :: r ∧ φ d ∧ Φ r) := fun G1 H Q W s k =>
  h G1 H _ W s fun v d G2 H2 e da f => hr G2 H2 _ e.w (s.trans e.sub) fun vs ds G3 H3 e3 das f3 => k _ _ _ _ (e.trans W e3) (.cons (da.mono e3.sub) das) ⟨d, ds, rfl, f, f3⟩
theorem tds_nilP : TDs K p l σ G tNil (fun ds => ds = []) := fun G1 H Q W _ k => k _ _ _ _ (Ext.refl W) .nil rfl
theorem td_tupP (h : TDs K p l σ G tr Φ) (hz : ∀ ds, Φ ds → ds.length ≤ sizeLine) : TD K p l σ G (tTup tr) (fun d => ∃ ds, d = .tuple ds ∧ Φ ds) := fun G1 H Q W s k =>
  h G1 H _ W s fun vs ds G2 H2 e da f => ⟨by rw [da.length]; exact hz ds f, fun a ha => k _ _ _ _ (e.trans W (e.w.put ha)) (.tup (SqT.of upd_same) (da.mono (e.w.put (o := .tup vs) ha).sub)) ⟨ds, rfl, f⟩⟩
theorem td_tup (h : TDs K p l σ G tr (All k n m)) (hz : m ≤ sizeLine := by decide) : TD K p l σ G (tTup tr) (Tp k n m) :=
  (td_tupP h fun ds f => by rw [f.1]; exact hz).imp fun d ⟨ds, e, f⟩ => ⟨ds, e, Nat.le_of_eq f.1, f.2⟩
theorem td_lst (h : TDs K p l σ G tr (All k n (m + 1))) (hz : m + 1 ≤ sizeLine := by decide) : TD K p l σ G (tLst tr) (Ls k n (m + 1)) := fun G1 H Q W s k =>
  h G1 H _ W s fun vs ds G2 H2 e da f => ⟨by rw [da.length, f.1]; exact hz, fun a ha => k _ _ _ _ (e.trans W (e.w.put ha)) (.lst upd_same (da.mono (e.w.put (o := .lst vs) ha).sub)) ⟨ds, rfl, by rw [f.1]; omega, Nat.le_of_eq f.1, f.2⟩⟩
theorem td_lst0 (hn : 3 ≤ n := by decide) : TD K p l σ G (tLst tNil) (Okd (k + 1) n) := fun G1 H Q W s k => ⟨Nat.zero_le _, fun a ha => k _ _ _ _ (W.put ha) (.lst upd_same .nil) ⟨rfl, by simp [PyData.depth, PyData.depthAll], hn⟩⟩
theorem td_tup0 : TD K p l σ G (tTup tNil) (Tp k n 0) := fun G1 H Q W s k => ⟨Nat.zero_le _, fun a ha => k _ _ _ _ (W.put ha) (.tup (SqT.of upd_same) .nil) ⟨[], rfl, Nat.le_refl _, fun x h => absurd h List.not_mem_nil⟩⟩
theorem td_dict0 (hn : 2 ≤ n := by decide) : TD K p l σ G tDNewK (Okd (k + 1) n) := fun G1 H Q W s k => fun a ha => k _ _ _ _ (W.put ha) (Da.dct (kvs := []) upd_same .nil) ⟨rfl, by simp [PyData.depth, PyData.depthKv], hn⟩
theorem Da.tpI {G : Hp} {v : V} {d : PyData} (h : Da K G v d) (f : Tp k n m d) : ∃ a xs ds, v = .ref a ∧ d = .tuple ds ∧ SqT K G a xs ∧ DaAll K G xs ds ∧ ds.length ≤ m ∧ ∀ x ∈ ds, Okd k n x := by
  obtain ⟨ds, rfl, h1, h2⟩ := f
  cases h with
  | tup a b => exact ⟨_, _, ds, rfl, rfl, a, b, h1, h2⟩
theorem Da.lsI {G : Hp} {v : V} {d : PyData} (h : Da K G v d) (f : Ls k n m d) : ∃ a xs ds, v = .ref a ∧ d = .list ds ∧ G a = some (.lst xs) ∧ DaAll K G xs ds ∧ 0 < ds.length ∧ ds.length ≤ m ∧ ∀ x ∈ ds, Okd k n x := by
  obtain ⟨ds, rfl, h0, h1, h2⟩ := f
  cases h with
  | lst a b => exact ⟨_, _, ds, rfl, rfl, a, b, h0, h1, h2⟩
/-- t + u, tuples -/
theorem td_catA {m2 : Nat} (ha : TD K p l σ G ta (Tp k n m)) (hb : TD K p l σ G tb (Tp k n m2)) (hz : m + m2 ≤ sizeLine := by decide) : TD K p l σ G (tOp (rCatA K) ta tb) (Tp k n (m + m2)) := fun G1 H Q W s k =>
  ha G1 H _ W s fun v d G2 H2 e da f => hb G2 H2 _ e.w (s.trans e.sub) fun u d2 G3 H3 e3 da3 f3 => by
    obtain ⟨a, xs, ds, rfl, rfl, t1, a1, l1, o1⟩ := da.tpI f
    obtain ⟨b, ys, es, rfl, rfl, t2, a2, l2, o2⟩ := da3.tpI f3
    have E := e.trans W e3
    refine ⟨a, b, xs, ys, rfl, rfl, sameT (e3.sub.trans e3.w.same) t1, sameT e3.w.same t2, by rw [a1.length, a2.length]; omega, fun hx => ?_, fun hx hy => ?_, fun hx hy c hc => ?_⟩
    · exact k _ _ _ _ E da3 ⟨es, rfl, by omega, o2⟩
    · exact k _ _ _ _ E (da.mono e3.sub) ⟨ds, rfl, by omega, o1⟩
    · have e4 := e3.w.put (o := .tup (xs ++ ys)) hc
      refine k _ _ _ _ (E.trans W e4) (.tup (SqT.of upd_same) ((a1.mono (e3.sub.trans e4.sub)).append (a2.mono e4.sub))) ⟨ds ++ es, rfl, by rw [List.length_append]; omega, fun x mx => ?_⟩
      rcases List.mem_append.mp mx with mx | mx
      · exact o1 x mx
      · exact o2 x mx
/-- xs + ys, lists -/
theorem td_cat {m2 : Nat} (ha : TD K p l σ G ta (Ls k n m)) (hb : TD K p l σ G tb (Ls k n m2)) (hz : m + m2 ≤ sizeLine := by decide) : TD K p l σ G (tOp rCat ta tb) (Ls k n (m + m2)) := fun G1 H Q W s k =>
  ha G1 H _ W s fun v d G2 H2 e da f => hb G2 H2 _ e.w (s.trans e.sub) fun u d2 G3 H3 e3 da3 f3 => by
    obtain ⟨a, xs, ds, rfl, rfl, t1, a1, z1, l1, o1⟩ := da.lsI f
    obtain ⟨b, ys, es, rfl, rfl, t2, a2, z2, l2, o2⟩ := da3.lsI f3
    have E := e.trans W e3
    refine ⟨a, b, xs, ys, rfl, rfl, (e3.sub.trans e3.w.same) _ _ t1, e3.w.same _ _ t2, by rw [a1.length, a2.length]; omega, fun c hc => ?_⟩
    have e4 := e3.w.put (o := .lst (xs ++ ys)) hc
    refine k _ _ _ _ (E.trans W e4) (.lst upd_same ((a1.mono (e3.sub.trans e4.sub)).append (a2.mono e4.sub))) ⟨ds ++ es, rfl, by rw [List.length_append]; omega, by rw [List.length_append]; omega, fun x mx => ?_⟩
    rcases List.mem_append.mp mx with mx | mx
    · exact o1 x mx
    · exact o2 x mx
/-- t[lo:hi] -/
theorem td_sl {tl th : TO} (ha : TD K p l σ G ta (Tp k n m)) (hl : TPt σ tl) (hh : TPt σ th) : TD K p l σ G (tSl (rSlA K) ta tl th) (Tp k n m) := fun G1 H Q W s k =>
  ha G1 H _ W s fun v d G2 H2 e da f => hl H2 _ fun lo => hh H2 _ fun hi => by
    obtain ⟨a, xs, ds, rfl, rfl, t1, a1, l1, o1⟩ := da.tpI f
    refine ⟨a, xs, rfl, sameT e.w.same t1, fun _ => k _ _ _ _ e da ⟨ds, rfl, l1, o1⟩, fun _ c hc => ?_⟩
    have e4 := e.w.put (o := .tup (cutV xs lo hi)) hc
    refine k _ _ _ _ (e.trans W e4) (.tup (SqT.of upd_same) ((((a1.drop _).take _).mono e4.sub))) ⟨_, rfl, ?_, fun x mx => o1 x (List.mem_of_mem_drop (List.mem_of_mem_take mx))⟩
    rw [List.length_take, List.length_drop]
    omega
theorem tp_none : TPt σ tNoPart := fun H Q h => h none
theorem tp_int {i : Int} : TPt σ (tPart (tC (.int i))) := fun H Q h => ⟨i, rfl, h _⟩
theorem tp_var {i : Nat} {z : Int} (hi : σ[i]? = some (some (.int z))) : TPt σ (tPart (tVar i)) := fun H Q h => ⟨_, hi, _, rfl, h _⟩
theorem tp_add {i : Nat} {z c : Int} (hi : σ[i]? = some (some (.int z))) : TPt σ (tPart (tOp (rI0 fun i j => .int (i + j)) (tVar i) (tC (.int c)))) := fun H Q h => ⟨_, hi, _, _, rfl, rfl, _, rfl, h _⟩
/-- (x,) * c -/
theorem td_rep {c : Int} {N : Nat} (ha : TD K p l σ G ta (fun d => ∃ x, d = .tuple [x] ∧ Okd k n x)) (h2 : 2 ≤ c := by decide) (h3 : c ≤ 1000 := by decide) (hN : c.toNat ≤ N := by decide) : TD K p l σ G (tOp (rRepT K) ta (tC (.int c))) (Tp k n N) := fun G1 H Q W s k =>
  ha G1 H _ W s fun v d G2 H2 e da f => by
    obtain ⟨x, rfl, o1⟩ := f
    cases da with
    | @tup a xs _ t1 a1 =>
      cases a1 with
      | cons b1 b2 =>
        cases b2
        rename_i y
        refine ⟨a, c, [y], rfl, rfl, sameT e.w.same t1, by simp, h2, h3, by simp, fun q hq => ?_⟩
        have e4 := e.w.put (o := .tup (List.replicate c.toNat [y]).flatten) hq
        refine k _ _ _ _ (e.trans W e4) (.tup (SqT.of upd_same) ((DaAll.flat (.cons b1 .nil) c.toNat).mono e4.sub)) ⟨_, rfl, ?_, fun z mz => ?_⟩
        · rw [PyProof.Rows.lm_len_rep_flat]
          simpa using hN
        · rw [List.mem_flatten] at mz
          obtain ⟨r, hr, mz⟩ := mz
          rw [(List.mem_replicate.mp hr).2] at mz
          rw [List.mem_singleton.mp mz]
          exact o1
/-- list(t), t a tuple -/
theorem td_list_of (ha : TD K p l σ G ta (Tp k n m)) {N : Nat} (hN : (n + 2) * m + 3 ≤ N := by decide) :
    TD K p l σ G (tCB (fun xs H Q => ∃ p ys, xs = [.ref p] ∧ (SqL K H p ys ∨ SqT K H p ys) ∧ ∀ l, H l = none → Q (.ref l) (upd H l (.lst ys))) (tCons ta tNil)) (Okd (k + 1) N) := fun G1 H Q W s k =>
  ha G1 H _ W s fun v d G2 H2 e da f => by
    obtain ⟨a, xs, ds, rfl, rfl, t1, a1, l1, o1⟩ := da.tpI f
    refine ⟨a, xs, rfl, .inr (sameT e.w.same t1), fun q hq => ?_⟩
    have e4 := e.w.put (o := .lst xs) hq
    exact k _ _ _ _ (e.trans W e4) (.lst upd_same (a1.mono e4.sub)) (Okd.list o1 l1 hN)
/-- tuple(xs), xs a list -/
theorem td_tuple_of {N : Nat} (ha : TD K p l σ G ta (fun d => ∃ ds, d = .list ds ∧ ds.length ≤ m ∧ ∀ x ∈ ds, Okd k n x)) :
    TD K p l σ G (tCB (fun xs H Q => ∃ p ys, xs = [.ref p] ∧ ((SqL K H p ys ∧ ∀ l, H l = none → Q (.ref l) (upd H l (.tup ys))) ∨ (SqT K H p ys ∧ Q (.ref p) H))) (tCons ta tNil)) (Tp k n m) := fun G1 H Q W s k =>
  ha G1 H _ W s fun v d G2 H2 e da f => by
    obtain ⟨ds, rfl, l1, o1⟩ := f
    cases da with
    | @lst a xs _ t1 a1 =>
      refine ⟨a, xs, rfl, .inl ⟨SqL.of (e.w.same _ _ t1), fun q hq => ?_⟩⟩
      have e4 := e.w.put (o := .tup xs) hq
      exact k _ _ _ _ (e.trans W e4) (.tup (SqT.of upd_same) (a1.mono e4.sub)) ⟨ds, rfl, l1, o1⟩
end
/-! ### comprehensions over a range -/
section
variable (K : PySem.W.Frag) (p l : Addr) (σ : St) (G : Hp)
/-- a range of N turns, N as told; the deck may be drawn from -/
def TW (wi : TI) (ν : Nat → Prop) : Prop := ∀ (G1 H : Hp) (R : It → Hp → Prop), Wd p l G1 H → Same G G1 → (∀ N G2 H2, ν N → Ext p l G1 H G2 H2 → R (Itr 0 N) H2) → wi σ H R
end
/-- a list whose length and items are as told -/
def LsN (ν : Nat → Prop) (φ : PyData → Prop) (d : PyData) : Prop := ∃ ds, d = .list ds ∧ ν ds.length ∧ ∀ x ∈ ds, φ x
section
variable {K : PySem.W.Frag} {p l : Addr} {σ : St} {G : Hp}
theorem set_none {j : Nat} {v : Option V} (σ : St) : ((σ.set j none).set j v).set j none = σ.set j none := by
  rw [List.set_set, List.set_set]
theorem tw_var {i : Nat} {z : Int} (hi : σ[i]? = some (some (.int z))) (h0 : 0 ≤ z) (h1 : z < 1000000) : TW p l σ G (iRng1 (tCons (tVar i) tNil)) (fun N => (N : Int) = z) := fun G1 H R W s k =>
  ⟨_, hi, z, rfl, by omega, by omega, k _ _ _ (by omega) (Ext.refl W)⟩
theorem tw_int {z : Int} (h0 : 0 ≤ z) (h1 : z < 1000000) : TW p l σ G (iRng1 (tCons (tC (.int z)) tNil)) (fun N => (N : Int) = z) := fun G1 H R W s k =>
  ⟨z, rfl, by omega, by omega, k _ _ _ (by omega) (Ext.refl W)⟩
theorem td_lc {wi : TI} {te : TE} {j M : Nat} {ν : Nat → Prop} {φ : PyData → Prop} (hw : TW p l σ G wi ν) (hM : ∀ N, ν N → N ≤ M) (hM2 : M < sizeLine) (he : ∀ i : Nat, TD K p l ((σ.set j none).set j (some (.int (0 + (i : Int))))) G te φ) :
    TD K p l σ G (tLc wi (gName j) tYes te [j]) (LsN ν φ) := fun G1 H Q W s k =>
  hw G1 H _ W s fun N G2 H2 hN e => fun D hD => by
    have nDp := e.w.np hD
    have nDl := e.w.nl hD
    have E1 := e.w.tmp (o := .lst []) hD
    refine lc_range (lo := 0) (n := N) (fun i H3 => ∃ G3 xs ds, Wd p l G3 H3 ∧ Same G2 G3 ∧ G3 D = none ∧ H3 D = some (.lst xs) ∧ DaAll K G3 xs ds ∧ ds.length = i ∧ (∀ x ∈ ds, φ x) ∧
        (∀ b o, b ≠ p → b ≠ l → b ≠ D → H2 b = some o → H3 b = some o) ∧ (∀ b o, H2 b = some o → G2 b = none → G3 b = none))
      ⟨G2, [], [], E1.w, Same.refl _, e.w.same.free hD, upd_same, .nil, rfl, fun x m => absurd m List.not_mem_nil, fun b o n1 n2 n3 q => by rw [upd_ne n3]; exact q, fun b o _ g => g⟩ ?_ ?_
    · rintro i H3 hi ⟨G3, xs, ds, w3, s3, gD, hD3, da3, l3, f3, k3, n3⟩
      refine ⟨set_none σ, ?_⟩
      show te _ _ _
      refine he i G3 H3 _ w3 ((s.trans e.sub).trans s3) fun v d G4 H4 e4 da4 f4 => ?_
      have hD4 : H4 D = some (.lst xs) := e4.keep _ _ nDp nDl hD3
      have gD4 : G4 D = none := e4.new _ _ hD3 gD
      refine ⟨xs, hD4, by rw [da3.length, l3]; exact Nat.lt_of_lt_of_le hi (Nat.le_trans (hM N hN) (Nat.le_of_lt hM2)), G4, xs ++ [v], ds ++ [d], e4.w.own nDp nDl gD4, s3.trans e4.sub, gD4, upd_same, (da3.mono e4.sub).append (.cons da4 .nil),
        by rw [List.length_append, l3]; rfl, fun x m => ?_, fun b o n1 n2 n4 q => ?_, fun b o q g => ?_⟩
      · rcases List.mem_append.mp m with m | m
        · exact f3 x m
        · rw [List.mem_singleton.mp m]
          exact f4
      · rw [upd_ne n4]
        exact e4.keep _ _ n1 n2 (k3 b o n1 n2 n4 q)
      · have g3 := n3 b o q g
        by_cases b1 : b = p
        · subst b1
          exact e4.w.gp
        · by_cases b2 : b = l
          · subst b2
            exact e4.w.gl
          · exact e4.new b o (k3 b o b1 b2 (ne_of_none q hD) q) g3
    · rintro H3 ⟨G3, xs, ds, w3, s3, gD, hD3, da3, l3, f3, k3, n3⟩
      obtain ⟨w4, s4⟩ := w3.hold nDp nDl gD hD3
      have E2 : Ext p l G2 H2 (upd G3 D (.lst xs)) H3 := ⟨w4, s3.trans s4, fun b o n1 n2 q => k3 b o n1 n2 (ne_of_none q hD) q, fun b o q g => by
        rw [upd_ne (ne_of_none q hD)]
        exact n3 b o q g⟩
      exact k _ _ _ _ (e.trans W E2) (.lst upd_same (da3.mono s4)) ⟨ds, rfl, by rw [l3]; exact hN, f3⟩
/-- tuple(xs), xs a list as told -/
theorem td_tupleN {ta : TE} {ν : Nat → Prop} {φ : PyData → Prop} (ha : TD K p l σ G ta (LsN ν φ)) :
    TD K p l σ G (tCB (fun xs H Q => ∃ p ys, xs = [.ref p] ∧ ((SqL K H p ys ∧ ∀ l, H l = none → Q (.ref l) (upd H l (.tup ys))) ∨ (SqT K H p ys ∧ Q (.ref p) H))) (tCons ta tNil)) (fun d => ∃ ds, d = .tuple ds ∧ ν ds.length ∧ ∀ x ∈ ds, φ x) := fun G1 H Q W s k =>
  ha G1 H _ W s fun v d G2 H2 e da f => by
    obtain ⟨ds, rfl, l1, o1⟩ := f
    cases da with
    | @lst a xs _ t1 a1 =>
      refine ⟨a, xs, rfl, .inl ⟨SqL.of (e.w.same _ _ t1), fun q hq => ?_⟩⟩
      have e4 := e.w.put (o := .tup xs) hq
      exact k _ _ _ _ (e.trans W e4) (.tup (SqT.of upd_same) (a1.mono e4.sub)) ⟨ds, rfl, l1, o1⟩
theorem td_tupO {tr : TA} {k n m k2 N : Nat} (h : TDs K p l σ G tr (All k n m)) (hN : (n + 2) * m + 3 ≤ N := by decide) (hk : k + 1 ≤ k2 := by decide) (hz : m ≤ sizeLine := by decide) : TD K p l σ G (tTup tr) (Okd k2 N) :=
  (td_tup h hz).imp fun d f => (f.okd hN).mono hk (Nat.le_refl _)
theorem td_tup0O {k n : Nat} (hk : 1 ≤ k := by decide) (hn : 3 ≤ n := by decide) : TD K p l σ G (tTup tNil) (Okd k n) := td_tup0.imp fun d (f : Tp 0 0 0 d) => (f.okd (N := 3)).mono hk hn
theorem td_tpO {t : TE} {k n m k2 N : Nat} (h : TD K p l σ G t (Tp k n m)) (hN : (n + 2) * m + 3 ≤ N := by decide) (hk : k + 1 ≤ k2 := by decide) : TD K p l σ G t (Okd k2 N) := h.imp fun d f => (f.okd hN).mono hk (Nat.le_refl _)
end
end L2.Hx

/-! list(zip(xs, ys)), two lists of one length. -/
namespace L2.Zx
open PySem PySem.Spec PyProof.Rows
abbrev ZipF (h : Heap) (z TI TO a : Addr) (f : Bool) : Prop :=
  h.get? z = some { cls := .type "zip", dict := none, data := .fields #[rawInt a, .bool f, .bool false, .ref TI, .ref TO], slots := #[] }
section
variable {prog : Program} {w : World} {A : Around} {E : Value → Shared → Prop} {s : Shared}
theorem owned_out {z TI TO a : Addr} {f : Bool} {oa : Obj} {Q : Bool → Shared → Prop} (hz : ZipF s.heap z TI TO a f) (ha : s.heap.get? a = some oa)
    (hQ : ∀ h₃, ZipF h₃ z TI TO a true → Heap.SameBut z s.heap h₃ → Q false { s with heap := h₃ }) : wpAny (model prog w) A (Builtin.SmallTypes.ownedTupleIsFree (.ref z)) Q E s := by
  unfold Builtin.SmallTypes.ownedTupleIsFree
  refine wpAny_bind (wpAny_field hz rfl (x := rawInt a) rfl ?_)
  show wpAny _ _ (loadIfAlive ((a : Int).toNat) >>= _) _ _ _
  rw [Int.toNat_natCast]
  refine wpAny_bind (PySem.W.kdx_alive ha ?_)
  simp only [Option.isNone_some, Bool.false_eq_true, if_false]
  refine wpAny_bind (wpAny_field hz rfl (x := .bool f) rfl ?_)
  cases f with
  | true =>
    rw [if_neg (show ¬ ((Value.bool true != Value.bool true) = true) from Bool.false_ne_true)]
    exact wpAny_pure (hQ s.heap hz (Heap.SameBut.refl _ _))
  | false =>
    rw [if_pos (show (Value.bool false != Value.bool true) = true from rfl)]
    refine wpAny_bind (wpAny_setField_rec hz (by simp) fun h₃ hz₃ hs₃ => ?_)
    exact wpAny_pure (hQ h₃ hz₃ hs₃)
theorem next_out {z TI TO i1 i2 l1 l2 a : Addr} {f : Bool} {oa : Obj} {k : Nat} {xs ys : Array Value} {x y : Value} {Q : Option Value → Shared → Prop} (D : ZipApart z TI TO i1 i2 l1 l2)
    (hz : ZipF s.heap z TI TO a f) (ha : s.heap.get? a = some oa) (hTI : IsPair s.heap TI (.ref i1) (.ref i2))
    (h1 : s.heap.IsListIter i1 l1 k) (h2 : s.heap.IsListIter i2 l2 k) (hl1 : s.heap.IsList l1 xs) (hl2 : s.heap.IsList l2 ys) (hx : xs[k]? = some x) (hy : ys[k]? = some y)
    (hQ : ∀ h', ZipF h' z TI TO a true → h'.IsListIter i1 l1 (k + 1) → h'.IsListIter i2 l2 (k + 1) → IsPair h' s.heap.objs.size x y → h'.objs.size = s.heap.objs.size + 1 →
      (∀ c o, c ≠ z → c ≠ i1 → c ≠ i2 → s.heap.get? c = some o → h'.get? c = some o) → Q (some (.ref s.heap.objs.size)) { s with heap := h' }) :
    wpAny (model prog w) A (pyNext (.ref z)) Q E s := by
  have hT : s.TypeIs (.ref z) "zip" := ⟨_, hz, rfl⟩
  unfold pyNext
  refine wpAny_bind (wpAny_attempt (wpAny_callSpecial?_slot (name := Str.ofString "__next__") hT F.slot_zip_next
    (wpAny_call_entry F.slot_zip_next hT F.entry_zip_next ?_ (F.args_zip_next_1 _))))
  show wpAny _ _ (field (.ref z) 2 >>= _) _ _ _
  refine wpAny_bind (wpAny_field hz rfl (x := .bool false) rfl ?_)
  show wpAny _ _ (field (.ref z) 3 >>= _) _ _ _
  refine wpAny_bind (wpAny_field hz rfl (x := .ref TI) rfl ?_)
  refine wpAny_bind (wpAny_seqItems hTI rfl ?_)
  show wpAny _ _ (Builtin.SmallTypes.ownedTupleIsFree (.ref z) >>= _) _ _ _
  refine wpAny_bind (owned_out hz ha fun h₃ hz₃ hs₃ => ?_)
  simp only [Bool.false_eq_true, if_false]
  rw [← Array.forIn_toList]
  simp only [List.forIn_cons, List.forIn_nil]
  refine wpAny_bind ?_
  refine wpAny_bind ?_
  refine wpAny_bind (wpAny_holding ?_)
  show wpAny _ _ (Builtin.SmallTypes.nextOf (.ref i1) >>= _) _ _ _
  refine wpAny_bind (wpAny_nextOf_list_item (h1.extBut hs₃.extBut D.i1z) (hl1.extBut hs₃.extBut D.l1z) hx fun h₄ h1₄ hs₄ => wpAny_pure ?_)
  refine wpAny_pure ?_
  dsimp only
  refine wpAny_bind ?_
  refine wpAny_bind (wpAny_holding ?_)
  show wpAny _ _ (Builtin.SmallTypes.nextOf (.ref i2) >>= _) _ _ _
  refine wpAny_bind (wpAny_nextOf_list_item ((h2.extBut hs₃.extBut D.i2z).extBut hs₄.extBut D.i12.symm) ((hl2.extBut hs₃.extBut D.l2z).extBut hs₄.extBut D.l2i1) hy fun h₅ h2₅ hs₅ => wpAny_pure ?_)
  refine wpAny_pure ?_
  dsimp only
  refine wpAny_pure ?_
  dsimp only
  refine wpAny_bind (wpAny_newTuple (hsz := by show 2 ≤ sizeLine; decide) ?_)
  have up : ∀ c o, c ≠ z → c ≠ i1 → c ≠ i2 → s.heap.get? c = some o → h₅.get? c = some o := fun c o c1 c2 c3 e => hs₅.extBut _ _ c3 (hs₄.extBut _ _ c2 (hs₃.extBut _ _ c1 e))
  have hsz : h₅.objs.size = s.heap.objs.size := by rw [hs₅.1, hs₄.1, hs₃.1]
  refine wpAny_pure ⟨_, rfl, wpAny_pure ?_⟩
  show Q (some (.ref h₅.objs.size)) _
  have hz₅ : ZipF h₅ z TI TO a true := hs₅.extBut _ _ D.i2z.symm (hs₄.extBut _ _ D.i1z.symm hz₃)
  have h1₅ : h₅.IsListIter i1 l1 (k + 1) := h1₄.extBut hs₅.extBut D.i12
  have hT₆ : IsPair (h₅.push { cls := .type "tuple", data := .seq #[x, y] }) h₅.objs.size x y := Heap.get?_push_size _ rfl
  rw [hsz] at hT₆ ⊢
  refine hQ _ (Heap.get?_push_of_some _ hz₅) (h1₅.at fun o e => Heap.get?_push_of_some _ e) (h2₅.at fun o e => Heap.get?_push_of_some _ e) hT₆ (by rw [Heap.size_push, hsz]) fun c o c1 c2 c3 e => Heap.get?_push_of_some _ (up c o c1 c2 c3 e)
theorem end_out {z TI TO i1 i2 l1 l2 a : Addr} {f : Bool} {oa : Obj} {k : Nat} {xs : Array Value} {Q : Option Value → Shared → Prop} (hh : A.handled = none) (D : ZipApart z TI TO i1 i2 l1 l2)
    (hz : ZipF s.heap z TI TO a f) (ha : s.heap.get? a = some oa) (hTI : IsPair s.heap TI (.ref i1) (.ref i2))
    (h1 : s.heap.IsListIter i1 l1 k) (hl1 : s.heap.IsList l1 xs) (hx : xs[k]? = none)
    (hQ : ∀ h', (∀ c o, c ≠ z → c ≠ i1 → s.heap.get? c = some o → h'.get? c = some o) → Q none { s with heap := h' }) :
    wpAny (model prog w) A (pyNext (.ref z)) Q E s := by
  have hT : s.TypeIs (.ref z) "zip" := ⟨_, hz, rfl⟩
  unfold pyNext
  refine wpAny_bind (wpAny_attempt (wpAny_callSpecial?_slot (name := Str.ofString "__next__") hT F.slot_zip_next
    (wpAny_call_entry F.slot_zip_next hT F.entry_zip_next ?_ (F.args_zip_next_1 _))))
  show wpAny _ _ (field (.ref z) 2 >>= _) _ _ _
  refine wpAny_bind (wpAny_field hz rfl (x := .bool false) rfl ?_)
  show wpAny _ _ (field (.ref z) 3 >>= _) _ _ _
  refine wpAny_bind (wpAny_field hz rfl (x := .ref TI) rfl ?_)
  refine wpAny_bind (wpAny_seqItems hTI rfl ?_)
  show wpAny _ _ (Builtin.SmallTypes.ownedTupleIsFree (.ref z) >>= _) _ _ _
  refine wpAny_bind (owned_out hz ha fun h₃ hz₃ hs₃ => ?_)
  simp only [Bool.false_eq_true, if_false]
  rw [← Array.forIn_toList]
  simp only [List.forIn_cons, List.forIn_nil]
  refine wpAny_bind ?_
  refine wpAny_bind ?_
  refine wpAny_bind (wpAny_holding ?_)
  show wpAny _ _ (Builtin.SmallTypes.nextOf (.ref i1) >>= _) _ _ _
  refine wpAny_bind (wpAny_nextOf_list_end hh (h1.extBut hs₃.extBut D.i1z) (hl1.extBut hs₃.extBut D.l1z) hx fun h₄ e hs₄ he => ?_)
  obtain ⟨oe, hoe, hce⟩ := he
  refine wpAny_bind (wpAny_isInstance (T := "StopIteration") (b := true) ⟨oe, hoe, hce⟩ isSubtype_stop ?_)
  exact wpAny_pure (hQ _ fun c o c1 c2 e => hs₄ _ _ c2 (hs₃.extBut _ _ c1 e))
/-- the zip at its k-th pair; S is the list that is made, as the tuples handed out -/
structure St (h : Heap) (z TI TO i1 i2 l1 l2 S : Addr) (xs ys : Array Value) (k : Nat) : Prop where
  own : IsZip h z TI TO .none ∨ ∃ a f oa, ZipF h z TI TO a f ∧ h.get? a = some oa ∧ S < a
  ti : IsPair h TI (.ref i1) (.ref i2)
  to : ∃ a b, IsPair h TO a b
  h1 : h.IsListIter i1 l1 k
  h2 : h.IsListIter i2 l2 k
  hl1 : h.IsList l1 xs
  hl2 : h.IsList l2 ys
/-- all of a zip below S -/
structure Low (z TI TO i1 i2 l1 l2 S : Addr) : Prop where
  z : z < S
  ti : TI < S
  to : TO < S
  i1 : i1 < S
  i2 : i2 < S
  l1 : l1 < S
  l2 : l2 < S
theorem St.keep {h h' : Heap} {z TI TO i1 i2 l1 l2 S : Addr} {xs ys : Array Value} {k : Nat} (L : Low z TI TO i1 i2 l1 l2 S) (x : St h z TI TO i1 i2 l1 l2 S xs ys k) (hk : ∀ b o, b ≠ S → h.get? b = some o → h'.get? b = some o) : St h' z TI TO i1 i2 l1 l2 S xs ys k := by
  have n : ∀ {b : Addr}, b < S → b ≠ S := fun h => Nat.ne_of_lt h
  refine ⟨?_, hk _ _ (n L.ti) x.ti, ?_, x.h1.at fun o e => hk _ o (n L.i1) e, x.h2.at fun o e => hk _ o (n L.i2) e, x.hl1.at fun o e => hk _ o (n L.l1) e, x.hl2.at fun o e => hk _ o (n L.l2) e⟩
  · rcases x.own with e | ⟨a, f, oa, e, ea, lt⟩
    · exact .inl (hk _ _ (n L.z) e)
    · exact .inr ⟨a, f, oa, hk _ _ (n L.z) e, hk _ _ (Nat.ne_of_gt lt) ea, lt⟩
  · obtain ⟨a, b, e⟩ := x.to
    exact ⟨a, b, hk _ _ (n L.to) e⟩
theorem item {z TI TO i1 i2 l1 l2 S : Addr} {k : Nat} {xs ys : Array Value} {x y : Value} {Q : Option Value → Shared → Prop} (D : ZipApart z TI TO i1 i2 l1 l2) (L : Low z TI TO i1 i2 l1 l2 S) (hst : St s.heap z TI TO i1 i2 l1 l2 S xs ys k) (hS : S < s.heap.objs.size)
    (hx : xs[k]? = some x) (hy : ys[k]? = some y)
    (hQ : ∀ h', St h' z TI TO i1 i2 l1 l2 S xs ys (k + 1) → IsPair h' s.heap.objs.size x y → (∀ b o, S ≤ b → s.heap.get? b = some o → h'.get? b = some o) → (∀ b o, b ≠ z → b ≠ TO → b ≠ i1 → b ≠ i2 → s.heap.get? b = some o → h'.get? b = some o) → Q (some (.ref s.heap.objs.size)) { s with heap := h' }) :
    wpAny (model prog w) A (pyNext (.ref z)) Q E s := by
  have g : ∀ {b c : Addr}, b < S → S ≤ c → c ≠ b := fun h1 h2 => Nat.ne_of_gt (Nat.lt_of_lt_of_le h1 h2)
  rcases hst.own with e | ⟨a, f, oa, e, ea, lt⟩
  · obtain ⟨a, b, eo⟩ := hst.to
    refine wpAny_pyNext_zip_item D e hst.ti eo hst.h1 hst.h2 hst.hl1 hst.hl2 hx hy fun h' z1 z2 z3 z4 z5 z6 z7 => ?_
    have up : ∀ b o, b ≠ z → b ≠ TO → b ≠ i1 → b ≠ i2 → s.heap.get? b = some o → h'.get? b = some o := fun b o c1 c2 c3 c4 e => z7 b o c1 c2 c3 c4 e
    exact hQ h' ⟨.inr ⟨_, false, _, z1, z5, hS⟩, up _ _ D.TIz D.TITO D.TIi1 D.TIi2 hst.ti, ⟨_, _, z2⟩, z3, z4, hst.hl1.at fun o e => up _ o D.l1z D.l1TO D.l1i1 D.l1i2 e, hst.hl2.at fun o e => up _ o D.l2z D.l2TO D.l2i1 D.l2i2 e⟩ z5 (fun b o lb e => up b o (g L.z lb) (g L.to lb) (g L.i1 lb) (g L.i2 lb) e) up
  · refine next_out D e ea hst.ti hst.h1 hst.h2 hst.hl1 hst.hl2 hx hy fun h' z1 z3 z4 z5 z6 z7 => ?_
    obtain ⟨b1, b2, eo⟩ := hst.to
    have up : ∀ b o, b ≠ z → b ≠ TO → b ≠ i1 → b ≠ i2 → s.heap.get? b = some o → h'.get? b = some o := fun b o c1 _ c3 c4 e => z7 b o c1 c3 c4 e
    exact hQ h' ⟨.inr ⟨_, true, _, z1, z7 _ _ (g L.z (Nat.le_of_lt lt)) (g L.i1 (Nat.le_of_lt lt)) (g L.i2 (Nat.le_of_lt lt)) ea, lt⟩, z7 _ _ D.TIz D.TIi1 D.TIi2 hst.ti, ⟨_, _, z7 _ _ D.TOz D.TOi1 D.TOi2 eo⟩, z3, z4, hst.hl1.at fun o e => z7 _ o D.l1z D.l1i1 D.l1i2 e, hst.hl2.at fun o e => z7 _ o D.l2z D.l2i1 D.l2i2 e⟩ z5 (fun b o lb e => up b o (g L.z lb) (g L.to lb) (g L.i1 lb) (g L.i2 lb) e) up
theorem done {z TI TO i1 i2 l1 l2 S : Addr} {k : Nat} {xs ys : Array Value} {Q : Option Value → Shared → Prop} (hh : A.handled = none) (D : ZipApart z TI TO i1 i2 l1 l2) (hst : St s.heap z TI TO i1 i2 l1 l2 S xs ys k) (hx : xs[k]? = none)
    (hQ : ∀ h', (∀ b o, b ≠ z → b ≠ TO → b ≠ i1 → b ≠ i2 → s.heap.get? b = some o → h'.get? b = some o) → Q none { s with heap := h' }) : wpAny (model prog w) A (pyNext (.ref z)) Q E s := by
  rcases hst.own with e | ⟨a, f, oa, e, ea, lt⟩
  · obtain ⟨a, b, eo⟩ := hst.to
    exact wpAny_pyNext_zip_end hh D e hst.ti eo hst.h1 hst.h2 hst.hl1 hst.hl2 (.inl hx) fun h' k => hQ h' k
  · exact end_out hh D e ea hst.ti hst.h1 hst.hl1 hx fun h' k => hQ h' fun b o c1 _ c3 _ e => k b o c1 c3 e
/-- the tuples made -/
structure Made (xs ys : Array Value) (lo : Addr) (h : Heap) (as : List Addr) : Prop where
  rise : as.Pairwise (· < ·)
  above : ∀ a ∈ as, lo < a
  pairs : ∀ (j : Nat) (a : Addr), as[j]? = some a → ∃ x y, xs[j]? = some x ∧ ys[j]? = some y ∧ IsPair h a x y
theorem Made.there {xs ys : Array Value} {lo : Addr} {h : Heap} {as : List Addr} (g : Made xs ys lo h as) {a : Addr} (ha : a ∈ as) : a < h.objs.size := by
  obtain ⟨j, hj⟩ := List.mem_iff_getElem?.mp ha
  obtain ⟨_, _, _, _, e⟩ := g.pairs j a hj
  exact Heap.lt_size e
theorem loop {R : Result → Shared → Prop} {z TI TO i1 i2 l1 l2 S : Addr} {xs ys : Array Value} {n : Nat} (hh : A.handled = none) (D : ZipApart z TI TO i1 i2 l1 l2) (L : Low z TI TO i1 i2 l1 l2 S) (n1 : xs.size = n) (n2 : ys.size = n) (hn : n ≤ sizeLine) (res : Value) {h₁ : Heap}
    (hR : ∀ h' tk acc c as, (∀ b o, b ≠ S → b ≠ z → b ≠ TO → b ≠ i1 → b ≠ i2 → h₁.get? b = some o → h'.get? b = some o) → h'.get? S = some { cls := .type "list", dict := none, data := .seq acc c, slots := #[] } → as.length = n → Made xs ys S h' as →
      acc.toList = as.map Value.ref → R (.ok (.ret res)) { s with heap := h', toks := tk }) :
    ∀ (k i : Nat) (h : Heap) (tk c : Nat) (acc : Array Value) (as : List Addr), n - i = k → i ≤ n → St h z TI TO i1 i2 l1 l2 S xs ys i → (∀ b o, b ≠ S → b ≠ z → b ≠ TO → b ≠ i1 → b ≠ i2 → h₁.get? b = some o → h.get? b = some o) →
      h.get? S = some { cls := .type "list", dict := none, data := .seq acc c, slots := #[] } → acc.toList = as.map Value.ref → as.length = i → Made xs ys S h as →
      codeAny (model prog w) A (.builtin "list.extend.loop" ⟨[.ref S, .ref z, res], []⟩) R { s with heap := h, toks := tk } := by
  have nz : S ≠ z := Nat.ne_of_gt L.z
  have nto : S ≠ TO := Nat.ne_of_gt L.to
  have ni1 : S ≠ i1 := Nat.ne_of_gt L.i1
  have ni2 : S ≠ i2 := Nat.ne_of_gt L.i2
  intro k
  induction k with
  | zero =>
    intro i h tk c acc as hk hi hst hkeep hS hacc hal hG
    have hin : i = n := by omega
    refine codeAny_builtin PySem.F.entry_extend_loop ?_
    rw [Around.under_plainId PySem.F.plain_extend_loop _]
    show wpAny _ A.in1 (pyNext (.ref z) >>= _) _ _ _
    refine wpAny_bind (done (s := { s with heap := h, toks := tk }) (A := A.in1) hh D hst (Array.getElem?_eq_none (by omega)) fun h' he => ?_)
    refine wpAny_pure (hR h' tk acc c as (fun b o h0 h1 h2 h3 h4 e => he b o h1 h2 h3 h4 (hkeep b o h0 h1 h2 h3 h4 e)) (he S _ nz nto ni1 ni2 hS) (by omega) ⟨hG.rise, hG.above, fun j a hj => ?_⟩ hacc)
    obtain ⟨x, y, e1, e2, e3⟩ := hG.pairs j a hj
    have la := hG.above a (List.mem_of_getElem? hj)
    have g : ∀ {b : Addr}, b < S → a ≠ b := fun h => Nat.ne_of_gt (Nat.lt_trans h la)
    exact ⟨x, y, e1, e2, he a _ (g L.z) (g L.to) (g L.i1) (g L.i2) e3⟩
  | succ k ih =>
    intro i h tk c acc as hk hi hst hkeep hS hacc hal hG
    have hlt : i < n := by omega
    obtain ⟨x, hx⟩ : ∃ p, xs[i]? = some p := ⟨xs[i], Array.getElem?_eq_getElem (by omega)⟩
    obtain ⟨y, hy⟩ : ∃ p, ys[i]? = some p := ⟨ys[i], Array.getElem?_eq_getElem (by omega)⟩
    have hsz : acc.size = i := by rw [← Array.length_toList, hacc, List.length_map, hal]
    have hSl : S < h.objs.size := Heap.lt_size hS
    refine codeAny_builtin PySem.F.entry_extend_loop ?_
    rw [Around.under_plainId PySem.F.plain_extend_loop _]
    show wpAny _ A.in1 (pyNext (.ref z) >>= _) _ _ _
    refine wpAny_bind (item (s := { s with heap := h, toks := tk }) (S := S) D L hst hSl hx hy fun h' hst' ht hge hkp => ?_)
    dsimp only at ht hge hkp ⊢
    have hS' := hge S _ (Nat.le_refl _) hS
    have up : ∀ b o, b ≠ S → h'.get? b = some o → (h'.update S (Obj.mapSeq (·.push (Value.ref h.objs.size)))).get? b = some o := fun b o hb e => (Heap.get?_update_other _ _ (Ne.symm hb)).trans e
    show wpAny _ A.in1 (updateSeq S (·.push (Value.ref h.objs.size)) >>= _) _ _ _
    refine wpAny_bind ?_
    refine wpAny_updateSeq hS' rfl (wpAny_pure ⟨plainId_quiet PySem.F.plain_extend_loop _, ih (i + 1) _ tk _ (acc.push (Value.ref h.objs.size)) (as ++ [h.objs.size]) (by omega) hlt (hst'.keep L up)
      (fun b o h0 h1 h2 h3 h4 e => up b o h0 (hkp b o h1 h2 h3 h4 (hkeep b o h0 h1 h2 h3 h4 e))) (Heap.get?_update_self _ hS' rfl) (by rw [Array.toList_push, hacc, List.map_append]; rfl) (by rw [List.length_append, hal]; rfl) ⟨?_, ?_, ?_⟩⟩) (by rw [hsz]; omega) (by show (acc.push (Value.ref h.objs.size)).size ≤ sizeLine + 1; rw [Array.size_push, hsz]; omega)
    · refine List.pairwise_append.mpr ⟨hG.rise, List.pairwise_singleton _ _, fun a ha b hb => ?_⟩
      rw [List.mem_singleton.mp hb]
      exact hG.there ha
    · intro a ha
      rcases List.mem_append.mp ha with ha | ha
      · exact hG.above a ha
      · rw [List.mem_singleton.mp ha]
        exact hSl
    · intro j b hj
      rcases Nat.lt_trichotomy j as.length with h1 | h1 | h1
      · rw [List.getElem?_append_left h1] at hj
        obtain ⟨x', y', e1, e2, e3⟩ := hG.pairs j b hj
        have hb := hG.above b (List.mem_of_getElem? hj)
        exact ⟨x', y', e1, e2, up b _ (Nat.ne_of_gt hb) (hge b _ (Nat.le_of_lt hb) e3)⟩
      · subst h1
        have hb : h.objs.size = b := by simpa using hj
        subst hb
        exact ⟨x, y, by rw [hal]; exact hx, by rw [hal]; exact hy, up _ _ (Nat.ne_of_gt hSl) ht⟩
      · have hnone : (as ++ [h.objs.size])[j]? = none := List.getElem?_eq_none (by rw [List.length_append, List.length_singleton]; omega)
        rw [hnone] at hj
        cases hj
end
theorem zip_no_len : typeLookup (.type "zip") "__len__" = pure none := by rw [typeLookup_type, builtinLookup_eq_fast]; kernel_rfl
theorem zip_no_hint : typeLookup (.type "zip") "__length_hint__" = pure none := by rw [typeLookup_type, builtinLookup_eq_fast]; kernel_rfl
section
variable {prog : Program} {w : World} {A : Around} {E : Value → Shared → Prop} {s : Shared} {z TI TO i1 i2 l1 l2 : Addr} {xs ys : Array Value} {n : Nat}
theorem extend {R : Result → Shared → Prop} {S : Addr} (hh : A.handled = none) (D : ZipApart z TI TO i1 i2 l1 l2) (L : Low z TI TO i1 i2 l1 l2 S) (n1 : xs.size = n) (n2 : ys.size = n) (hn : n ≤ sizeLine) (hst : St s.heap z TI TO i1 i2 l1 l2 S xs ys 0) (hz : IsZip s.heap z TI TO .none)
    (res : Value) (c₀ : Nat) (hS : s.heap.get? S = some { cls := .type "list", data := .seq #[] c₀ })
    (hR : ∀ h' tk acc c as, (∀ b o, b ≠ S → b ≠ z → b ≠ TO → b ≠ i1 → b ≠ i2 → s.heap.get? b = some o → h'.get? b = some o) → h'.get? S = some { cls := .type "list", dict := none, data := .seq acc c, slots := #[] } → as.length = n → Made xs ys S h' as →
      acc.toList = as.map Value.ref → R (.ok (.ret res)) { s with heap := h', toks := tk }) :
    wpAny (model prog w) A.in1 (Builtin.List.listExtendWith (.ref S) (.ref z) res)
      (fun fin s' => match fin with | .done f => R (.ok f) s' | .again c' => c'.quiet = true ∧ codeAny (model prog w) A c' R s') (fun e s' => R (.error e) s') s := by
  have hT : s.TypeIs (.ref z) "zip" := ⟨_, hz, rfl⟩
  have nz : S ≠ z := Nat.ne_of_gt L.z
  have key : ∀ (h : Heap) (c₁ : Nat), (∀ b o, b ≠ S → s.heap.get? b = some o → h.get? b = some o) → h.get? S = some { cls := .type "list", data := .seq #[] c₁ } →
      codeAny (model prog w) A (.builtin "list.extend.loop" ⟨[.ref S, .ref z, res], []⟩) R { s with heap := h, toks := s.toks } := by
    intro h c₁ hk hS₁
    exact loop (s := s) (h₁ := s.heap) hh D L n1 n2 hn res hR n 0 h s.toks c₁ #[] [] (Nat.sub_zero _) (Nat.zero_le _) (hst.keep L hk) (fun b o h0 _ _ _ _ e => hk b o h0 e) hS₁ rfl rfl
      ⟨List.Pairwise.nil, (fun _ ha => nomatch ha), (fun j a hj => by simp at hj)⟩
  unfold Builtin.List.listExtendWith
  refine wpAny_bind (wpAny_typeOf (T := "zip") hT ?_)
  have h1 : Builtin.List.listSameRef (.ref S) (.ref z) = false := by simp [Builtin.List.listSameRef, nz]
  have h2 : (Value.type "zip" == Value.type "list") = false := by decide
  have h3 : (Value.type "zip" == Value.type "tuple") = false := by decide
  simp only [h1, h2, h3, Bool.or_false, Bool.false_eq_true, if_false]
  refine wpAny_bind (wpAny_pyIter_zip hz ?_)
  refine wpAny_bind (wpAny_holding ?_)
  unfold Builtin.List.listLengthHint
  refine wpAny_bind (wpAny_specialOf hT zip_no_len ?_)
  show wpAny _ A.in1 (specialOf (Value.ref z) (Str.ofString "__length_hint__") >>= _) _ _ _
  refine wpAny_bind (wpAny_specialOf hT zip_no_hint ?_)
  refine wpAny_pure ?_
  refine wpAny_ite_split (fun _ => ?_) (fun _ => wpAny_pure ⟨plainId_quiet PySem.F.plain_extend_loop _, key _ c₀ (fun b o _ e => e) hS⟩)
  refine wpAny_bind (wpAny_rule ?_)
  refine wpAny_bind ?_
  show wpAny _ _ (updateSeq S (·.push .none) >>= fun _ => updateSeq S (·.pop)) _ _ _
  refine wpAny_bind (wpAny_updateSeq hS rfl ?_)
  have hS₂ := Heap.get?_update_self (Obj.mapSeq (·.push Value.none)) hS rfl
  refine wpAny_updateSeq (hz := by seq_fits) hS₂ rfl ?_
  have hS₃ := Heap.get?_update_self (Obj.mapSeq (·.pop)) hS₂ rfl
  refine wpAny_pure ⟨plainId_quiet PySem.F.plain_extend_loop _, key _ _ (fun b o hb e => ?_) hS₃⟩
  exact (Heap.get?_update_other _ _ (Ne.symm hb)).trans ((Heap.get?_update_other _ _ (Ne.symm hb)).trans e)
theorem init {R : Result → Shared → Prop} {S : Addr} (hh : A.handled = none) (D : ZipApart z TI TO i1 i2 l1 l2) (L : Low z TI TO i1 i2 l1 l2 S) (n1 : xs.size = n) (n2 : ys.size = n) (hn : n ≤ sizeLine) (hst : St s.heap z TI TO i1 i2 l1 l2 S xs ys 0) (hz : IsZip s.heap z TI TO .none)
    (hS : s.heap.get? S = some { cls := .type "list", data := .seq #[] })
    (hR : ∀ h' tk acc c as, (∀ b o, b ≠ S → b ≠ z → b ≠ TO → b ≠ i1 → b ≠ i2 → s.heap.get? b = some o → h'.get? b = some o) → h'.get? S = some { cls := .type "list", dict := none, data := .seq acc c, slots := #[] } → as.length = n → Made xs ys S h' as →
      acc.toList = as.map Value.ref → R (.ok (.ret .none)) { s with heap := h', toks := tk }) :
    wpAny (model prog w) A.in1 (Builtin.«list.__init__» ⟨[.ref S, .ref z], []⟩)
      (fun fin s' => match fin with | .done f => R (.ok f) s' | .again c' => c'.quiet = true ∧ codeAny (model prog w) A c' R s') (fun e s' => R (.error e) s') s := by
  show wpAny _ _ (do let old ← Builtin.List.listItems (.ref S); Builtin.List.listUpdate (.ref S) (fun _ => #[]); letGo old.toList.reverse; Builtin.List.listExtendWith (.ref S) (.ref z) .none) _ _ s
  refine wpAny_bind ?_
  unfold Builtin.List.listItems
  refine wpAny_bind (wpAny_seqItems hS rfl (wpAny_pure ?_))
  show wpAny _ _ (updateSeq S (fun _ => #[]) >>= fun _ => letGo (#[] : Array Value).toList.reverse >>= fun _ => Builtin.List.listExtendWith (.ref S) (.ref z) .none) _ _ s
  refine wpAny_bind (wpAny_updateSeq hS rfl ?_)
  have hS₂ := Heap.get?_update_self (Obj.mapSeq (fun _ => (#[] : Array Value))) hS rfl
  have oth : ∀ b o, b ≠ S → s.heap.get? b = some o → (s.heap.update S (Obj.mapSeq (fun _ => (#[] : Array Value)))).get? b = some o :=
    fun b o hb e => (Heap.get?_update_other _ _ (Ne.symm hb)).trans e
  refine wpAny_bind (wpAny_letGo ?_)
  refine extend hh D L n1 n2 hn (hst.keep L oth) (oth _ _ (Nat.ne_of_lt L.z) hz) .none _ hS₂ fun h' tk acc c as hk hS' hl hG hacc => ?_
  exact hR h' tk acc c as (fun b o h0 h1 h2 h3 h4 e => hk b o h0 h1 h2 h3 h4 (oth b o h0 e)) hS' hl hG hacc
theorem call_list {Q : Value → Shared → Prop} (hh : A.handled = none) (D : ZipApart z TI TO i1 i2 l1 l2) (L : Low z TI TO i1 i2 l1 l2 s.heap.objs.size) (n1 : xs.size = n) (n2 : ys.size = n) (hn : n ≤ sizeLine) (hst : St s.heap z TI TO i1 i2 l1 l2 s.heap.objs.size xs ys 0) (hz : IsZip s.heap z TI TO .none)
    (hQ : ∀ h' tk acc c as, (∀ b o, b ≠ z → b ≠ TO → b ≠ i1 → b ≠ i2 → s.heap.get? b = some o → h'.get? b = some o) → h'.get? s.heap.objs.size = some { cls := .type "list", dict := none, data := .seq acc c, slots := #[] } → as.length = n → Made xs ys s.heap.objs.size h' as →
      acc.toList = as.map Value.ref → Q (.ref s.heap.objs.size) { s with heap := h', toks := tk }) :
    wpAny (model prog w) A (call (.type "list") [.ref z]) Q E s := by
  refine callType_codes (Q₁ := fun obj s₁ => obj = .ref s.heap.objs.size ∧ s₁ = { s with heap := s.heap.push { cls := .type "list", data := .seq #[] } }) PySem.F.called_list (PySem.F.typeCall_list_1 _) PySem.F.entry_list_init
    (code_list_new _ ⟨rfl, rfl⟩) fun obj s₁ h₁ => ?_
  obtain ⟨rfl, rfl⟩ := h₁
  have hS : (s.heap.push { cls := .type "list", data := .seq #[] }).get? s.heap.objs.size = some { cls := .type "list", data := .seq #[] } := Heap.get?_push_size _ rfl
  refine ⟨⟨_, hS, rfl⟩, PySem.F.args_list_init_2 _ _, init (A := A.in1) hh D L n1 n2 hn (hst.keep L fun b o _ e => Heap.get?_push_of_some _ e) (Heap.get?_push_of_some _ hz) hS (fun h' tk acc c as hk hS' hl hG hacc => ?_)⟩
  exact ⟨rfl, hQ h' tk acc c as (fun b o h1 h2 h3 h4 e => hk b o (Nat.ne_of_lt (Heap.lt_size e)) h1 h2 h3 h4 (Heap.get?_push_of_some _ e)) hS' hl hG hacc⟩
end
/-- the tuples tracked at their addresses -/
def putT : Hp → List Addr → List (V × V) → Hp
  | H, a :: as, p :: kvs => putT (upd H a (.tup [p.1, p.2])) as kvs
  | H, _, _ => H
theorem putT_off {b : Addr} : ∀ (as : List Addr) (kvs : List (V × V)) (H : Hp), b ∉ as → putT H as kvs b = H b
  | [], _, _, _ => rfl
  | _ :: _, [], _, _ => rfl
  | a :: as, p :: kvs, H, h => by
    show putT (upd H a (.tup [p.1, p.2])) as kvs b = H b
    rw [putT_off as kvs _ (fun z => h (List.mem_cons_of_mem _ z)), upd_ne (fun z => h (by rw [z]; exact List.mem_cons_self))]
theorem putT_at : ∀ (as : List Addr) (kvs : List (V × V)) (H : Hp), as.length = kvs.length → as.Nodup → Paired (fun (t : Addr) (p : V × V) => putT H as kvs t = some (.tup [p.1, p.2])) as kvs
  | [], [], _, _, _ => .nil
  | [], _ :: _, _, h, _ => by cases h
  | _ :: _, [], _, h, _ => by cases h
  | a :: as, p :: kvs, H, h, hn => by
    have hn' := List.nodup_cons.mp hn
    have ih := putT_at as kvs (upd H a (.tup [p.1, p.2])) (Nat.succ.inj h) hn'.2
    refine .cons ?_ ih
    show putT (upd H a (.tup [p.1, p.2])) as kvs a = some (.tup [p.1, p.2])
    rw [putT_off as kvs _ hn'.1, upd_same]
theorem laid {X : Cx} {pins : List (Addr × Obj)} {σ : L2.St} {H : Hp} {s : Shared} {h' : Heap} {tk : Nat} {vs us : List V} {xs ys : List Value} {acc : Array Value} {c : Nat} {as : List Addr} {S : Addr} (I : Inv X pins σ H s) (lS : s.heap.objs.size ≤ S) (hz : vs.length ≤ sizeLine) (le : vs.length = us.length) (rv : Vals vs xs) (ru : Vals us ys)
    (hk : ∀ b o, s.heap.get? b = some o → h'.get? b = some o) (hS : h'.get? S = some { cls := .type "list", dict := none, data := .seq acc c, slots := #[] }) (hl : as.length = vs.length) (hG : Made xs.toArray ys.toArray S h' as) (hacc : acc.toList = as.map Value.ref) :
    ∃ H' : Hp, (∀ b o, H b = some o → H' b = some o) ∧ H S = none ∧ (∀ t ∈ as, H t = none) ∧ S ∉ as ∧ H' S = some (.lst (as.map V.ref)) ∧ Paired (fun (t : Addr) (q : V × V) => H' t = some (.tup [q.1, q.2])) as (vs.zip us) ∧ Inv X pins σ H' { s with heap := h', toks := tk } := by
  have hSn : S ∉ as := fun z => Nat.lt_irrefl _ (hG.above _ z)
  have nd : as.Nodup := List.Pairwise.imp (fun {a b} (h : a < b) => Nat.ne_of_lt h) hG.rise
  have new : ∀ t ∈ as, H t = none := fun t ht => I.hok.fresh (Nat.le_trans lS (Nat.le_of_lt (hG.above t ht)))
  have newS : H S = none := I.hok.fresh lS
  have atP := putT_at as (vs.zip us) (upd H S (.lst (as.map V.ref))) (by rw [List.length_zip]; omega) nd
  have off : ∀ b, b ∉ as → b ≠ S → putT (upd H S (.lst (as.map V.ref))) as (vs.zip us) b = H b := fun b h1 h2 => by rw [putT_off as (vs.zip us) _ h1, upd_ne h2]
  have low : ∀ b o, s.heap.get? b = some o → b ∉ as ∧ b ≠ S := fun b o e => ⟨fun z => absurd (Nat.lt_of_lt_of_le (Heap.lt_size e) lS) (Nat.not_lt.mpr (Nat.le_of_lt (hG.above b z))), Nat.ne_of_lt (Nat.lt_of_lt_of_le (Heap.lt_size e) lS)⟩
  have kp : ∀ b u, H b = some u → (putT (upd H S (.lst (as.map V.ref))) as (vs.zip us)) b = some u := fun b u e => by
    rw [off b (fun z => by rw [new b z] at e; cases e) (fun z => by rw [z, newS] at e; cases e)]
    exact e
  have eS : putT (upd H S (.lst (as.map V.ref))) as (vs.zip us) S = some (.lst (as.map V.ref)) := by rw [putT_off as (vs.zip us) _ hSn, upd_same]
  refine ⟨putT (upd H S (.lst (as.map V.ref))) as (vs.zip us), kp, newS, new, hSn, eS, atP, ?_⟩
  refine I.call' (ch := []) rfl ⟨fun b o q _ _ _ => hk b o q, fun b o q _ _ _ => ⟨o.slots, hk b o q⟩, fun b o q n _ => ?_, fun b o q _ => ⟨o, hk b o q⟩, fun b xs q => kp b _ q, fun b o u q => kp b _ q, fun b ps q => ⟨#[], by rw [kp b _ q]; simp⟩⟩ (fun b u q => ?_) I.bare fun b z => by simp at z
  · obtain ⟨z1, z2⟩ := low b o q
    rw [off b z1 z2]
    exact n
  · by_cases hb : b ∈ as
    · obtain ⟨j, pk, e1, e2, e3⟩ := LiI.paired_ix atP hb
      rw [e3] at q
      cases q
      obtain ⟨x, y, f1, f2, f3⟩ := hG.pairs j b e1
      obtain ⟨g1, g2⟩ := List.getElem?_zip_eq_some.mp e2
      obtain ⟨x', m1, m2⟩ := rv.get g1
      obtain ⟨y', m3, m4⟩ := ru.get g2
      have ex : x' = x := by
        rw [List.getElem?_toArray, m1] at f1
        exact Option.some.inj f1
      have ey : y' = y := by
        rw [List.getElem?_toArray, m3] at f2
        exact Option.some.inj f2
      subst ex ey
      exact ⟨by show 2 ≤ sizeLine; decide, [x', y'], .cons m2 (.cons m4 .nil), ⟨_, f3, rfl, _, rfl⟩⟩
    · by_cases hb2 : b = S
      · rw [hb2] at q ⊢
        rw [eS] at q
        cases q
        refine ⟨by rw [List.length_map]; omega, acc.toList, c, by rw [hacc]; exact LiI.vals_refs as, ?_⟩
        rw [Array.toArray_toList]
        exact hS
      · rw [off b hb hb2] at q
        exact (I.hok b u q).stay (fun d v _ y => hk d v y) (fun d y => kp d _ y) fun d xs y => kp d _ y
def rListZip (K : PySem.W.Frag) : List V → Hp → VK → Prop := fun zs H Q => ∃ (a b : Addr) (vs us : List V), zs = [.ref a, .ref b] ∧ SqL K H a vs ∧ SqL K H b us ∧ vs.length = us.length ∧
  ∀ (H' : Hp) (p : Addr) (ts : List Addr), (∀ b o, H b = some o → H' b = some o) → H p = none → (∀ t ∈ ts, H t = none) → p ∉ ts → H' p = some (.lst (ts.map V.ref)) → Paired (fun (t : Addr) (q : V × V) => H' t = some (.tup [q.1, q.2])) ts (vs.zip us) → Q (.ref p) H'
def tListZip (K : PySem.W.Frag) (ta : TA) : TE := fun σ H Q => ta σ H fun zs H1 => rListZip K zs H1 Q
/-- list(zip(xs, ys)) -/
theorem pe_listZip {X : Cx} {e e2 : Expr} {ta : TA} {p pz pz2 pos : Pos} (hc : X.calm = true) (hg : Gl X "list") (hm : X.mg "list" = none) (hgz : Gl X "zip") (hmz : X.mg "zip" = none) (ha : PA X [e, e2] ta) (hv : bootBuiltins "list" = some (.type "list") := by rfl)
    (hs : starEach [e, e2] X.env = (false, eval e X.env) :: starEach [e2] X.env := by rfl) (hpl : (backTo pz2 (starEach [e2] X.env)).any (·.1) = false := by rfl)
    (hs1 : starEach [.Call (.Name "zip" pz) [e, e2] [] pz2] X.env = (false, eval (.Call (.Name "zip" pz) [e, e2] [] pz2) X.env) :: starEach [] X.env := by rfl) :
    PE X (.Call (.Name "list" p) [.Call (.Name "zip" pz) [e, e2] [] pz2] [] pos) (tListZip X.K ta) := by
  refine ⟨fun pins s σ H Q I hq => ?_⟩
  refine wpAny_Call_Name_kw (ld_blt I hg hm hv ?_)
  refine PyProof.Rows.callWith_type1 ?_ hs1 rfl
  rw [hs1]
  show wpAny _ _ (spliced ((false, eval (.Call (.Name "zip" pz) [e, e2] [] pz2) X.env) :: backTo pos (starEach [] X.env))) _ _ s
  refine Calls.spliced_cons ?_
  refine Call_ (ld_blt I hgz hmz PyProof.Rows.boot_zip (PyProof.Rows.callWith_type1 (thn (ha.run pz2 pins s σ H _ I hq) fun us s1 ⟨vs, H1, I1, r1, q1⟩ => ?_) hs hpl))
  obtain ⟨a, b, xs, ys, ex, hqx, hqy, hlen, q⟩ := q1
  subst ex
  cases r1 with
  | cons r rr =>
    cases rr with
    | cons r' rr =>
      cases rr
      cases r
      cases r'
      obtain ⟨its, rv, p1, z1⟩ := I1.list hqx
      obtain ⟨its2, rv2, p2, _⟩ := I1.list hqy
      have la : a < s1.heap.objs.size := p1.lt
      have lb : b < s1.heap.objs.size := p2.lt
      have n1 := rv.length
      have n2 := rv2.length
      refine call_zip_2 p1.isList p2.isList fun h' hz hTI hTO h1 h2 hsz hk => ?_
      refine Calls.spliced_nil ?_
      have L : Low (s1.heap.objs.size + 4) (s1.heap.objs.size + 2) (s1.heap.objs.size + 3) s1.heap.objs.size (s1.heap.objs.size + 1) a b h'.objs.size := by
        rw [hsz]
        exact ⟨Nat.add_lt_add_left (by decide) _, Nat.add_lt_add_left (by decide) _, Nat.add_lt_add_left (by decide) _, Nat.lt_add_of_pos_right (by decide), Nat.add_lt_add_left (by decide) _, Nat.lt_of_lt_of_le la (Nat.le_add_right _ _), Nat.lt_of_lt_of_le lb (Nat.le_add_right _ _)⟩
      refine call_list (s := { s1 with heap := h' }) (n := xs.length) (xs := its.toArray) (ys := its2.toArray) (I1.ok.hd hc) (PySem.W.ktu_apart s1.heap.objs.size a b la lb) L (by rw [List.size_toArray]; omega) (by rw [List.size_toArray]; omega) z1
        ⟨.inl hz, hTI, ⟨_, _, hTO⟩, h1, h2, p1.isList.at fun o e => hk _ o e, p2.isList.at fun o e => hk _ o e⟩ hz fun h2' tk acc c as hk2 hS hl hG hacc => ?_
      have old : ∀ c o, s1.heap.get? c = some o → h2'.get? c = some o := fun c o e => by
        have lc := Heap.lt_size e
        exact hk2 c o (Nat.ne_of_lt (Nat.lt_of_lt_of_le lc (Nat.le_add_right _ _))) (Nat.ne_of_lt (Nat.lt_of_lt_of_le lc (Nat.le_add_right _ _))) (Nat.ne_of_lt lc) (Nat.ne_of_lt (Nat.lt_of_lt_of_le lc (Nat.le_add_right _ _))) (hk c o e)
      obtain ⟨H', k1, k2, k3, k4, k5, k6, J⟩ := laid (tk := tk) I1 (by show s1.heap.objs.size ≤ h'.objs.size; rw [hsz]; exact Nat.le_add_right _ _) z1 hlen rv rv2 old hS hl hG hacc
      exact ⟨.ref _, H', J, rfl, q H' _ as k1 k2 k3 k4 k5 k6⟩
end L2.Zx

/-! Tuples that are known to be of the plain kind, and dict(t) of a tuple of pairs. -/
namespace L2.Hx
open PySem PySem.Spec PyProof.Rows
def PlO (o : Obj) : Prop := o.cls = .type "tuple" ∧ o.dict = none
def PlT (H : Hp) (a : Addr) (xs : List V) : Prop := ∃ o, PlO o ∧ H a = some (.frz o (.tup xs))
theorem PlT.sqT {K : PySem.W.Frag} {H : Hp} {a : Addr} {xs : List V} (h : PlT H a xs) : SqT K H a xs := by
  obtain ⟨o, _, e⟩ := h
  exact .inl (.inr ⟨o, e⟩)
theorem PlT.same {G H : Hp} {a : Addr} {xs : List V} (s : Same G H) (h : PlT G a xs) : PlT H a xs := by
  obtain ⟨o, p, e⟩ := h
  exact ⟨o, p, s _ _ e⟩
def tTupP (t : TA) : TE := fun σ H Q => t σ H fun xs H1 => xs.length ≤ sizeLine ∧ ∀ p o, PlO o → H1 p = none → Q (.ref p) (upd H1 p (.frz o (.tup xs)))
section
variable {X : Cx}
theorem pe_tupP {es : List Expr} {pos : Pos} {t : TA} {x1} (h : PA X es t) : PE X (.Tuple es x1 pos) (tTupP t) := by
  refine ⟨fun pins s σ H Q I hq => ?_⟩
  refine wpAny_Tuple_spliced (thn (h.run pos pins s σ H _ I hq) fun us s1 ⟨xs, H1, I1, r, z, q⟩ => ⟨by rw [← r.length]; exact z, ?_⟩)
  have hf : H1 s1.heap.objs.size = none := I1.hok.fresh (Nat.le_refl _)
  refine ⟨.ref s1.heap.objs.size, _, I1.laid (t' := s1.toks) (o := .frz { cls := .type "tuple", data := .seq us.toArray } (.tup xs)) (fun b u e => Heap.get?_push_of_some _ e) (Nat.le_refl _) ?_, rfl, q _ _ ⟨rfl, rfl⟩ hf⟩
  exact ⟨Heap.get?_push_size _ rfl, z, us, r, ⟨_, Heap.get?_push_size _ rfl, rfl, _, rfl⟩⟩
theorem call_tuple_ofP : CallR X (.type "tuple") (fun xs H Q => ∃ p ys, xs = [.ref p] ∧ SqL X.K H p ys ∧ ∀ l o, PlO o → H l = none → Q (.ref l) (upd H l (.frz o (.tup ys)))) := by
  intro pins s σ H xs us Q I r h
  obtain ⟨p, ys, rfl, hq, q⟩ := h
  obtain ⟨u, rfl, rx⟩ := vals1 r
  cases rx
  obtain ⟨its, r', pl, hz⟩ := I.list hq
  have hlen := r'.length
  refine call_tuple_list pl.isList (fun h' kp => ?_) (by simp only [List.size_toArray] <;> omega)
  have I1 : Inv X pins σ H { s with heap := h' } := I.kept (t' := s.toks) kp
  have I2 : Inv X pins σ (upd H h'.objs.size (.frz { cls := .type "tuple", data := .seq its.toArray } (.tup ys))) { s with heap := h'.push { cls := .type "tuple", data := .seq its.toArray } } :=
    I1.laid (t' := s.toks) (fun b o e => Heap.get?_push_of_some _ e) (Nat.le_refl _) (show ObjOk X.prog X.w _ _ _ (.frz _ (.tup ys)) from ⟨Heap.get?_push_size _ rfl, hz, its, r', IsTup.new _ _⟩)
  exact ⟨.ref h'.objs.size, _, I2, rfl, q _ _ ⟨rfl, rfl⟩ (I1.hok.fresh (Nat.le_refl _))⟩
/-- t + u, none of both empty -/
def rCatP (K : PySem.W.Frag) : R2 := fun x y H Q => ∃ a b xs ys, x = .ref a ∧ y = .ref b ∧ SqT K H a xs ∧ SqT K H b ys ∧ xs ≠ [] ∧ ys ≠ [] ∧ xs.length + ys.length ≤ sizeLine ∧ ∀ p o, PlO o → H p = none → Q (.ref p) (upd H p (.frz o (.tup (xs ++ ys))))
theorem op_catP : OpR X (binaryOp .Add) (rCatP X.K) := by
  intro pins s σ H x y v u Q I rx ry h
  obtain ⟨a, b, xs, ys, rfl, rfl, ha, hb, hx, hy, hz, q⟩ := h
  cases rx
  cases ry
  obtain ⟨its, r1, p1, _⟩ := I.tuple ha
  obtain ⟨its2, r2, p2, _⟩ := I.tuple hb
  refine HT.cat_tup p1 p2 (fun z => hx (r1.nil_iff.mp z)) (fun z => absurd (r2.nil_iff.mp z) hy) (fun z => ?_) (by rw [← r1.length, ← r2.length]; exact hz)
  refine ⟨.ref s.heap.objs.size, _, I.laid (t' := s.toks) (o := .frz { cls := .type "tuple", data := .seq (its ++ its2).toArray } (.tup (xs ++ ys))) (fun b ob q => Heap.get?_push_of_some _ q) (Nat.le_refl _) ?_, rfl, q _ _ ⟨rfl, rfl⟩ (I.hok.fresh (Nat.le_refl _))⟩
  exact ⟨Heap.get?_push_size _ rfl, by rw [List.length_append]; exact hz, _, r1.append r2, IsTup.new _ _⟩
theorem pairs_v {pins : List (Addr × Obj)} {σ : L2.St} {H : Hp} {s : Shared} (I : Inv X pins σ H s) : ∀ {ps : List Addr} {kvs : List (Key × V)}, Paired (fun p kv => SqT X.K H p [kV kv.1, kv.2]) ps kvs →
    ∃ (prs : List (Key × Value)) (vvs : List (Value × Value)), KV kvs prs ∧ prs.length = ps.length ∧ vvs.length = ps.length ∧ ∀ (j : Nat) (k v : Value), vvs[j]? = some (k, v) → ∃ (b : Addr) (key : Key), ps[j]? = some b ∧ IsTup s.heap b #[k, v] ∧ prs[j]? = some (key, v) ∧ keyIs key k = true
  | _, _, .nil => ⟨[], [], .nil, rfl, rfl, fun j k v e => by simp at e⟩
  | _, _, .cons (a := p) (b := kv) h t => by
    obtain ⟨prs, vvs, r, hl, hl2, hp⟩ := pairs_v I t
    obtain ⟨its, rv, ht, _⟩ := I.tuple h
    obtain ⟨u, y, ei, ru, ry⟩ := vals2 rv
    subst ei
    refine ⟨(kv.1, y) :: prs, (u, y) :: vvs, .cons ⟨rfl, ry⟩ r, by rw [List.length_cons, List.length_cons, hl], by rw [List.length_cons, List.length_cons, hl2], fun j k v e => ?_⟩
    cases j with
    | zero =>
      have e' : (u, y) = (k, v) := Option.some.inj e
      cases e'
      exact ⟨p, kv.1, rfl, ht, rfl, kV_is (P := X.prog) (w := X.w) ru⟩
    | succ j =>
      obtain ⟨b, key, e1, e2, e3, e4⟩ := hp j k v (by simpa using e)
      exact ⟨b, key, by simpa using e1, e2, by simpa using e3, e4⟩
/-- dict(t), t a plain tuple of pairs -/
def rDictT (K : PySem.W.Frag) : List V → Hp → VK → Prop := fun xs H Q => ∃ (a : Addr) (ps : List Addr) (kvs : List (Key × V)), xs = [.ref a] ∧ PlT H a (ps.map V.ref) ∧ Paired (fun p kv => SqT K H p [kV kv.1, kv.2]) ps kvs ∧
  ∀ p, H p = none → Q (.ref p) (upd H p (.dK (mergeK [] kvs)))
theorem call_dictPT (hcalm : X.calm = true) : CallR X (.type "dict") (rDictT X.K) := by
  intro pins s σ H xs us Q I r q
  obtain ⟨a, ps, kvs, ex, ⟨ob, ⟨oc, od⟩, ha⟩, hp, q⟩ := q
  subst ex
  obtain ⟨u, eu, rx⟩ := vals1 r
  subst eu
  cases rx
  obtain ⟨e, hz, its, rv, o2, ho2, hc2, n, hd2⟩ := I.hok a _ ha
  have eo : ob = o2 := by
    rw [e] at ho2
    exact Option.some.inj ho2
  subst eo
  have ei := refs_at rv
  subst ei
  rw [List.length_map] at hz
  obtain ⟨prs, vvs, rel, hl, hl2, hpr⟩ := pairs_v I hp
  refine PySem.call_dict_pairs (knd := mixKind X.prog X.w) (kvs := prs) (PairArg.tuple a (ps.map Value.ref).toArray (fun j => ps.getD j 0) vvs) (I.ok.hd hcalm) ⟨⟨ob, n, e, oc, od, hd2⟩, by rw [List.size_toArray, List.length_map, hl2], fun j k v hj => ?_⟩ ⟨by rw [hl, hl2], fun i key v hv => ?_⟩ (by rw [hl2]; exact hz) fun h' tk hd' hk => ?_
  · obtain ⟨b, key, e1, e2, e3, e4⟩ := hpr j k v hj
    have eb : ps.getD j 0 = b := by rw [List.getD_eq_getElem?_getD, e1]; rfl
    refine ⟨?_, .inl ?_⟩
    · show _ = some (Value.ref (ps.getD j 0))
      rw [List.getElem?_toArray, List.getElem?_map, e1, eb]
      rfl
    · show s.heap.IsTuple (ps.getD j 0) _
      rw [eb]
      exact e2
  · obtain ⟨b, kk, e1, e2, e3, e4⟩ := hpr i key v hv
    exact ⟨kk, e3, e4⟩
  · have hm : (s.heap.objs.size == sysModules) = false := beq_eq_false_iff_ne.mpr (Nat.ne_of_gt I.big)
    have hlen : (mergeK [] kvs).length ≤ sizeLine := by
      refine Nat.le_trans (length_mergeK kvs []) ?_
      rw [List.length_nil, Nat.zero_add, rel.length, hl]
      exact hz
    exact ⟨.ref s.heap.objs.size, upd H s.heap.objs.size (.dK (mergeK [] kvs)), I.laid (t' := tk) (fun b o e => hk b o List.not_mem_nil e) (Nat.le_refl _) (show ObjOk X.prog X.w _ _ _ (.dK (mergeK [] kvs)) from ⟨hlen, hm, merged [] prs, KV.merge rel .nil, hd'⟩), rfl, q _ (I.hok.fresh (Nat.le_refl _))⟩
end
/-- a def by the names of its parameters, in any order: g puts them in order -/
theorem pe_kwg {X : Cx} {k j : Nat} {x : Str} {ps ks : List Str} {sp : Sp} {p pos : Pos} {kws : List Keyword} {tk : TA} {g : {α : Type} → List α → List α} (F : ∃ f fd, FnG X.prog X.w X.K X.mg X.base CX0 k f fd ps sp ∧ X.mg x = some (.ref f) ∧ PySem.W.keepIn X.K (.ref f) = true ∧ KwBinds X.K fd ps ks g) (hgd : X.A.guards = some []) (hr : Room j X.A) (hkw : PK X kws tk)
    (hrel : ∀ {zs : List V} {ws : List Value}, Vals zs ws → Vals (g zs) (g ws)) (hj : k ≤ j := by first | exact Nat.le_refl _ | decide)
    (hg : Gl X x := by rfl) (hall : (backToKw pos (keywordEach kws X.env)).all (·.1.isSome) = true := by rfl) (hks : (backToKw pos (keywordEach kws X.env)).filterMap (·.1) = ks := by rfl) (hdb : (x == ("__debug__" : Str)) = false := by decide)
    (hpl : ((backTo pos (starEach [] X.env)).any (·.1) || (backToKw pos (keywordEach kws X.env)).any (·.1.isNone)) = false := by rfl) :
    PE X (.Call (.Name x p) [] kws pos) (tKw sp g ps.length E0 tk) := by
  obtain ⟨f, fd, a, b, c, d⟩ := F
  exact pe_kw a hgd (hr.mono hj) hg b c d pass0 hkw hrel hall hks hdb hpl
/-- three by turns: the last two come first -/
def rot3 {α : Type} : List α → List α
  | [a, b, c] => [b, c, a]
  | l => l
def swap2 {α : Type} : List α → List α
  | [a, b] => [b, a]
  | l => l
theorem rot3_rel {zs : List V} {ws : List Value} (h : Vals zs ws) : Vals (rot3 zs) (rot3 ws) := by
  match zs, ws, h with
  | [], [], .nil => exact .nil
  | [_], [_], .cons a .nil => exact .cons a .nil
  | [_, _], [_, _], .cons a (.cons b .nil) => exact .cons a (.cons b .nil)
  | [_, _, _], [_, _, _], .cons a (.cons b (.cons c .nil)) => exact .cons b (.cons c (.cons a .nil))
  | _ :: _ :: _ :: _ :: _, _ :: _ :: _ :: _ :: _, h => exact h
theorem swap2_rel {zs : List V} {ws : List Value} (h : Vals zs ws) : Vals (swap2 zs) (swap2 ws) := by
  match zs, ws, h with
  | [], [], .nil => exact .nil
  | [_], [_], .cons a .nil => exact .cons a .nil
  | [_, _], [_, _], .cons a (.cons b .nil) => exact .cons b (.cons a .nil)
  | _ :: _ :: _ :: _, _ :: _ :: _ :: _, h => exact h
end L2.Hx

/-! A tuple turned about, and a tuple beside the empty one. -/
namespace L2.Hx
open PySem PySem.Spec PyProof.Rows HT
section
variable {prog : Program} {w : World} {A : Around} {E : Value → Shared → Prop} {s : Shared}
theorem adjust_rev (n : Nat) : Builtin.Slice.sliceAdjust none none (-1) (n : Int) = ((n : Int) - 1, -1) := by
  unfold Builtin.Slice.sliceAdjust
  simp
theorem places_rev (n : Nat) : Builtin.Slice.slicePlaces ((n : Int) - 1) (-1) (-1) = n := by
  unfold Builtin.Slice.slicePlaces
  have h1 : ¬ ((-1 : Int) > 0) := by omega
  have h2 : (-(-1) : Int) = 1 := by omega
  simp only [h1, if_false, h2, Int.ediv_one]
  split <;> omega
theorem fm_congr {α : Type} {f g : Nat → Option α} : ∀ {l : List Nat}, (∀ m ∈ l, f m = g m) → l.filterMap f = l.filterMap g
  | [], _ => rfl
  | m :: l, h => by
    rw [List.filterMap_cons, List.filterMap_cons, h m List.mem_cons_self, fm_congr fun x hx => h x (List.mem_cons_of_mem _ hx)]
theorem sliceApplied_rev {sl : Addr} {vs : Value} {n : Nat} {Q : Int × Int × Nat → Shared → Prop} (hs : s.heap.IsSliceOf sl .none .none vs) (ps : IsPart vs (some (-1))) (h : Q ((n : Int) - 1, -1, n) s) :
    wpAny (model prog w) A (Builtin.Slice.sliceApplied (.ref sl) (pure (n : Int))) Q E s := by
  obtain ⟨os, hos, hcs, hds⟩ := id hs
  unfold Builtin.Slice.sliceApplied Builtin.Slice.sliceFields
  refine wpAny_bind (wpAny_bind (wpAny_field hos hds (x := .none) rfl (wpAny_bind (wpAny_field hos hds (x := .none) rfl (wpAny_bind (wpAny_field hos hds (x := vs) rfl (wpAny_pure ?_)))))))
  refine wpAny_bind (slicePart_ ps ?_)
  show wpAny _ _ (if ((-1 : Int) == 0) = true then _ else _) _ _ s
  rw [if_neg (by decide)]
  refine wpAny_bind (PyProof.Rows.slicePart_none (wpAny_bind (PyProof.Rows.slicePart_none (wpAny_bind (wpAny_pure ?_)))))
  show wpAny _ _ (match Builtin.Slice.sliceAdjust none none (-1) (n : Int) with | (lo, hi) => pure (lo, (-1 : Int), Builtin.Slice.slicePlaces lo hi (-1))) _ _ s
  rw [adjust_rev]
  show wpAny _ _ (pure ((n : Int) - 1, (-1 : Int), Builtin.Slice.slicePlaces ((n : Int) - 1) (-1) (-1))) _ _ s
  rw [places_rev]
  exact wpAny_pure h
theorem pick_rev (xs : Array Value) : ((List.range xs.size).filterMap fun (m : Nat) => xs[(((xs.size : Int) - 1) + (m : Int) * (-1)).toNat]?).toArray = xs.toList.reverse.toArray := by
  have e : (List.range xs.size).filterMap (fun (m : Nat) => xs[(((xs.size : Int) - 1) + (m : Int) * (-1)).toNat]?) = (List.range xs.size).filterMap (fun (m : Nat) => (xs.toList.reverse.toArray)[(((0 : Nat) : Int) + (m : Int) * 1).toNat]?) := by
    refine fm_congr fun m hm => ?_
    have hm := List.mem_range.mp hm
    rw [show (((0 : Nat) : Int) + (m : Int) * 1).toNat = m by omega, show xs.toList.reverse.toArray[m]? = xs.toList.reverse[m]? by simp, List.getElem?_reverse (by rw [Array.length_toList]; exact hm), Array.getElem?_toList, Array.length_toList]
    congr 1
    omega
  rw [e, pick_gen, List.drop_zero, List.toList_toArray, List.take_of_length_le (by simp)]
theorem getItem_tuple_rev {t sl : Addr} {items : Array Value} {vs : Value} {Q : Value → Shared → Prop} (ht : IsTup s.heap t items) (hs : s.heap.IsSliceOf sl .none .none vs) (ps : IsPart vs (some (-1)))
    (h : Q (.ref s.heap.objs.size) { s with heap := s.heap.push { cls := .type "tuple", data := .seq items.toList.reverse.toArray } }) (hsz : items.size ≤ sizeLine) : wpAny (model prog w) A (getItem (.ref t) (.ref sl)) Q E s := by
  have htake : sizeOk (.seq items.toList.reverse.toArray) := by
    show items.toList.reverse.toArray.size ≤ sizeLine
    rw [List.size_toArray, List.length_reverse, Array.length_toList]
    exact hsz
  obtain ⟨os, hos, hcs, hds⟩ := id hs
  have hTs : s.TypeIs (.ref sl) "slice" := ⟨os, hos, hcs⟩
  unfold getItem
  try with_reducible refine wpAny_holding ?_
  first | refine wpAny_bind (wpAny_pure ?_) | skip
  refine wpAny_bind (wpAny_sequenceKey ht.typeIs (by decide) ?_)
  refine wpAny_bind (wpAny_callSpecial?_slot (name := Str.ofString "__getitem__") ht.typeIs PyProof.Rows.slot_tuple_getitem
    (wpAny_call_entry PyProof.Rows.slot_tuple_getitem ht.typeIs entry_tuple_getitem ?_ (args_tuple_getitem _ _)))
  show wpAny _ _ (Builtin.Tuple.tupleItemsOf (.ref t) >>= _) _ _ s
  refine wpAny_bind (tupleItemsOf_ ht ?_)
  refine wpAny_bind (wpAny_typeOf hTs ?_)
  rw [if_pos (by decide)]
  refine wpAny_bind (sliceApplied_rev hs ps ?_)
  have hno : ¬ ((((items.size : Int) - 1) == 0 && (-1 : Int) == 1 && items.size == items.size) = true) := by simp
  show wpAny _ _ (if (((items.size : Int) - 1) == 0 && (-1 : Int) == 1 && items.size == items.size) = true then _ else _) _ _ s
  rw [if_neg hno, pick_rev]
  first
    | exact wpAny_bind (m := Builtin.Tuple.tupleExact _) (wpAny_newObj_type (wpAny_pure ⟨_, rfl, wpAny_pure h⟩) htake)
    | exact wpAny_bind (m := Builtin.Tuple.tupleExact _) (wpAny_newObj_type (wpAny_bind (wpAny_pure (wpAny_pure ⟨_, rfl, wpAny_pure h⟩))) htake)
    | exact wpAny_bind (wpAny_bind (m := Builtin.Tuple.tupleExact _) (wpAny_newObj_type (wpAny_pure (wpAny_pure ⟨_, rfl, wpAny_pure h⟩)) htake))
    | exact wpAny_bind (wpAny_bind (m := Builtin.Tuple.tupleExact _) (wpAny_newObj_type (wpAny_pure ⟨_, rfl, wpAny_pure h⟩) htake))
end
/-- t[::-1] -/
def tRevT (K : PySem.W.Frag) (te : TE) : TE := fun σ H Q => te σ H fun x H1 => ∃ a xs, x = .ref a ∧ SqT K H1 a xs ∧ ∀ p, H1 p = none → Q (.ref p) (upd H1 p (.tup xs.reverse))
theorem pe_revT {X : Cx} {e : Expr} {te : TE} {k : Nat} {p1 p2 p3 pos : Pos} (he : PE X e te) : PE X (.Subscript e (.Slice none none (some (.UnaryOp .USub (.Constant (.int 1) k p1) p2)) p3) pos) (tRevT X.K te) := by
  refine ⟨fun pins s σ H Q I h => ?_⟩
  refine Subscript_ (thn (he.run pins s σ H _ I h) fun v s1 ⟨x, H1, I1, r1, q1⟩ => ?_)
  obtain ⟨a, xs, ex, hx, q⟩ := q1
  subst ex
  cases r1
  have hst : PO X (some (.UnaryOp .USub (.Constant (.int 1) k p1) p2)) (tPart (tUn (rU fun i => .int (-i)) (tC (.int 1)))) := po_some (pe_un un_neg pe_int)
  refine wpAny_Slice (thn (po_none.run pins s1 σ H1 (fun o H2 => o = none ∧ H2 = H1) I1 ⟨rfl, rfl⟩) fun vl s2 ⟨l, H2, I2, pl, el, e2⟩ => ?_)
  subst el e2
  refine thn (po_none.run pins s2 σ H2 (fun o H3 => o = none ∧ H3 = H2) I2 ⟨rfl, rfl⟩) fun vu s3 ⟨u, H3, I3, pu, eu, e3⟩ => ?_
  subst eu e3
  refine thn (hst.run pins s3 σ H3 (fun o H4 => o = some (-1) ∧ H4 = H3) I3 ⟨1, rfl, -1, rfl, rfl, rfl⟩) fun vs s4 ⟨o, H4, I4, ps, eo, e4⟩ => ?_
  subst eo e4
  have I5 : Inv X pins σ H4 { s4 with heap := s4.heap.push { cls := .type "slice", data := .fields #[vl, vu, vs] } } := I4.kept (t' := s4.toks) fun b ob q => Heap.get?_push_of_some _ q
  obtain ⟨its, r, ht, hz⟩ := I5.tuple hx
  have hlen := r.length
  cases pl
  cases pu
  show wpAny (model X.prog X.w) X.A (subscriptTail e (.Slice none none (some (.UnaryOp .USub (.Constant (.int 1) k p1) p2)) p3) (.ref a) (.ref s4.heap.objs.size)) (EP X pins σ Q) X.xe { s4 with heap := s4.heap.push { cls := .type "slice", data := .fields #[.none, .none, vs] } }
  refine tail_any (ops := [.ref a, .ref s4.heap.objs.size]) ht.typeIs (PyProof.Rows.slot_tuple_getitem.lookup) ?_ (by with_unfolding_all rfl)
  refine getItem_tuple_rev ht (Heap.IsSliceOf.new _ .none .none vs) ps ?_ (by rw [List.size_toArray]; omega)
  refine ⟨.ref _, _, I5.laid (t' := s4.toks) (o := .tup xs.reverse) (fun b ob q => Heap.get?_push_of_some _ q) (Nat.le_refl _) ?_, rfl, q _ (I5.hok.fresh (Nat.le_refl _))⟩
  exact ⟨by rw [List.length_reverse]; omega, its.reverse, r.reverse, ⟨_, Heap.get?_push_size _ rfl, rfl, _, rfl⟩⟩
/-! ### t == () -/
def rEqNil (K : PySem.W.Frag) : R2 := fun x y H Q => ∃ a b xs, x = .ref a ∧ y = .ref b ∧ SqT K H a xs ∧ SqT K H b [] ∧ Q (.bl xs.isEmpty) H
theorem op_eqNil {X : Cx} (hu : X.A.units + 64 < cLine) : OpR X (compareOp .Eq) (rEqNil X.K) := by
  intro pins s σ H x y v u Q I rx ry h
  obtain ⟨a, b, xs, rfl, rfl, ha, hb, q⟩ := h
  cases rx
  cases ry
  obtain ⟨its, r1, p1, _⟩ := I.tuple ha
  obtain ⟨its2, r2, p2, _⟩ := I.tuple hb
  cases r2
  refine SeqAt.RcAt.tuples (e := fun _ => true) p1 p2 (by omega) (fun j h1 h2 => absurd h2 (by simp)) _ _ _ _ ⟨.bl _, H, I, rfl, ?_⟩
  have e : ((List.range (min its.toArray.size ([] : List Value).toArray.size)).all (fun _ => true) && its.toArray.size == ([] : List Value).toArray.size) = xs.isEmpty := by
    cases xs with
    | nil =>
      cases r1
      rfl
    | cons x xs =>
      cases r1
      rfl
  rw [e]
  exact q
end L2.Hx

/-! sorted of pairs of a text and an int; dict(zip(xs, ys)) of ints; x in t, t a tuple of data. -/
namespace L2.Sk
open PySem PySem.Spec PyProof.Rows Srt
section
variable {prog : Program} {w : World} {A : Around} {E : Value → Shared → Prop} {s : Shared}
theorem oneLt_str {a b : Str} {t u : Tok} {Q : Bool → Shared → Prop} (h : Q (decide (a.cps.toList < b.cps.toList)) s) : wpAny (model prog w) A (oneLt' true (.str a t) (.str b u)) Q E s := by
  rw [oneLt'_eq]
  simp only [if_true]
  refine wpAny_bind (wpAny_cRoomFor_byValue rfl ?_)
  refine wpAny_bind (wpAny_callSpecialIfBound?_slot (typeIs_str s a t) slot_str_lt (call_str_lt ?_))
  exact wpAny_truthy_bool h
def IsPairS (h : Heap) (v : Value) (x : Str) (y : Int) : Prop := ∃ a o t u n, v = .ref a ∧ h.get? a = some o ∧ o.cls = .type "tuple" ∧ o.data = .seq #[.str x t, .int y u] n
theorem IsPairS.keeps {h h' : Heap} {v : Value} {x : Str} {y : Int} (p : IsPairS h v x y) (k : ∀ b o, h.get? b = some o → o.cls = .type "tuple" → h'.get? b = some o) : IsPairS h' v x y := by
  obtain ⟨a, o, t, u, n, e, ho, hc, hd⟩ := p
  exact ⟨a, o, t, u, n, e, k _ _ ho hc, hc, hd⟩
theorem pair_tot {vs : List Value} (hp : ∀ v ∈ vs, ∃ x y, IsPairS s.heap v x y) : Tot prog w A s (tuples' true) (fun p => p.1 ∈ vs) := by
  intro p q hm hm'
  obtain ⟨x, y, a, o, t, u, n, e, ho, hc, hd⟩ := hp _ hm
  obtain ⟨x', y', a', o', t', u', n', e', ho', hc', hd'⟩ := hp _ hm'
  rw [e, e']
  refine ⟨if (x == x') = true then (if y = y' then false else decide (y < y')) else decide (x.cps.toList < x'.cps.toList), ?_⟩
  refine PySem.W.kat_lt ho hd ho' hd' ?_
  show PySem.W.KatLex prog w A true (decide (2 < 2)) _ [(.str x t, .str x' t'), (.int y u, .int y' u')] 0 s
  refine PySem.W.kat_cons (SeqAt.EqAt.str_str x t x' t' prog w _ _ ?_)
  refine PySem.W.kat_go (fun e1 => ?_) (fun e1 => ?_)
  · refine PySem.W.kat_yes (PySem.W.kat_cons (SeqAt.EqAt.int_int y u y' u' prog w _ _ ?_))
    refine PySem.W.kat_go (fun e2 => ?_) (fun e2 => ?_)
    · have ey : y = y' := by simpa using e2
      have e3 : (if (x == x') = true then (if y = y' then false else decide (y < y')) else decide (x.cps.toList < x'.cps.toList)) = false := by rw [if_pos e1, if_pos ey]
      exact PySem.W.kat_yes (PySem.W.kat_nil ⟨rfl, e3.symm⟩)
    · have ey : ¬ y = y' := by simpa using e2
      have e3 : (if (x == x') = true then (if y = y' then false else decide (y < y')) else decide (x.cps.toList < x'.cps.toList)) = decide (y < y') := by rw [if_pos e1, if_neg ey]
      refine PySem.W.kat_no (PySem.W.kat_one _ _ (PyProof.Rows.lt_int ?_))
      exact (show s = s ∧ decide (y < y') = (if (x == x') = true then (if y = y' then false else decide (y < y')) else decide (x.cps.toList < x'.cps.toList)) from ⟨rfl, e3.symm⟩)
  · have e3 : (if (x == x') = true then (if y = y' then false else decide (y < y')) else decide (x.cps.toList < x'.cps.toList)) = decide (x.cps.toList < x'.cps.toList) := by rw [if_neg (by rw [e1]; exact Bool.false_ne_true)]
    exact PySem.W.kat_no (oneLt_str ⟨rfl, e3.symm⟩)
theorem firsts_of {h : Heap} : ∀ {vs : List Value}, (∀ v ∈ vs, ∃ x y, IsPairS h v x y) → ∃ fs : List Value, PySem.W.KatTups h vs fs ∧ fs.length = vs.length ∧ ∀ f ∈ fs, ∃ x t, f = Value.str x t
  | [], _ => ⟨[], PySem.W.KatTups.nil, rfl, fun _ hm => by simp at hm⟩
  | v :: vs, hp => by
    obtain ⟨fs, h1, h2, h3⟩ := firsts_of (vs := vs) fun v' hm => hp v' (List.mem_cons_of_mem _ hm)
    obtain ⟨x, y, a, o, t, u, n, e, ho, hc, hd⟩ := hp v (List.mem_cons_self ..)
    subst e
    refine ⟨.str x t :: fs, PySem.W.KatTups.cons ho hc hd rfl h1, by rw [List.length_cons, List.length_cons, h2], fun f hm => ?_⟩
    rcases List.mem_cons.mp hm with rfl | hm
    · exact ⟨x, t, rfl⟩
    · exact h3 f hm
theorem pairs_sortable {a : Addr} {vs : List Value} (h0 : 0 < vs.length) (hp : ∀ v ∈ vs, ∃ x y, IsPairS s.heap v x y) (ha : ∀ o, s.heap.get? a = some o → o.cls ≠ .type "tuple") : Sortable prog w A s a vs := by
  intro h' keep
  have hp' : ∀ v ∈ vs, ∃ x y, IsPairS h' v x y := fun v hm => by
    obtain ⟨x, y, p⟩ := hp v hm
    exact ⟨x, y, p.keeps fun b o e c => keep b o (fun z => by subst z; exact ha o e c) e⟩
  obtain ⟨fs, h1, h2, h3⟩ := firsts_of hp'
  refine ⟨tuples' true, fun Q E hq => ?_, pair_tot hp'⟩
  refine PySem.W.kat_kind (T := .type "str") h1 (by omega) (fun f hm => ?_) (by rfl) ?_
  · obtain ⟨x, t, rfl⟩ := h3 f hm
    exact PySem.W.Looks.now
  · have e : (Value.type "str" != Value.type "tuple") = true := by first | decide +kernel | rfl | decide
    rw [e]
    exact hq
theorem sorted_pairs {l : Addr} {vs : List Value} {Q : Value → Shared → Prop} (hl : s.heap.IsList l vs.toArray) (hz : vs.length ≤ sizeLine) (hp : ∀ v ∈ vs, ∃ x y, IsPairS s.heap v x y)
    (h : ∀ (h' : Heap) (d : Addr) (out : List Value), out.Perm vs → (∀ b o, s.heap.get? b = some o → h'.get? b = some o) → s.heap.objs.size ≤ d → (∃ n, h'.get? d = some (seqObj "list" out.toArray n)) → Q (.ref d) { s with heap := h' }) :
    wpAny (model prog w) A (call (.builtin "sorted") [.ref l]) Q E s := by
  refine sorted_any hl hz (fun h2 h₁ a ha k => ?_) fun out ho => ?_
  · refine pairs_sortable (s := { s with heap := h₁ }) (by omega) (fun v hm => ?_) fun o e => ?_
    · obtain ⟨x, y, p⟩ := hp v hm
      exact ⟨x, y, p.keeps fun b o e _ => (k b o e).2⟩
    · have e' : some o = some (seqObj "list" vs.toArray 0) := e.symm.trans ha
      cases e'
      intro c
      exact absurd (Value.type.inj c) (by decide)
  · exact h _ _ out ho (fun b o e => sortedAll_old e) (Nat.le_succ _) (sortedAll_at s.heap vs out.toArray)
end
end L2.Sk
namespace L2
open PySem PySem.Spec PyProof.Rows
section
variable {X : Cx}
/-- sorted(xs), xs a list of pairs of a text and an int: the same in another order -/
def rSortedSP (K : PySem.W.Frag) : List V → Hp → VK → Prop := fun vs H Q => ∃ a xs, vs = [V.ref a] ∧ SqL K H a xs ∧ (∀ x ∈ xs, ∃ t i j, x = V.ref t ∧ SqT K H t [.str i, .int j]) ∧
  ∀ ys p, ys.Perm xs → H p = none → Q (.ref p) (upd H p (.lst ys))
theorem cr_sortedSP : CallR X (.builtin "sorted") (rSortedSP X.K) := by
  intro pins s σ H vs us Q I r h
  obtain ⟨a, xs, rfl, hs, hx, q⟩ := h
  obtain ⟨its, rv, hl, hz⟩ := I.list hs
  obtain ⟨u, rfl, ru⟩ := vals1 r
  obtain rfl : u = Value.ref a := ru
  obtain ⟨e1, e2⟩ := refs_back rv fun x m => by
    obtain ⟨t, _, _, e, _⟩ := hx x m
    exact ⟨t, e⟩
  refine Sk.sorted_pairs hl.isList (by rw [← rv.length]; exact hz) (fun v hv => ?_) fun h' d out hp k hd hn => ?_
  · obtain ⟨t, rfl⟩ := e2 v hv
    have hm : V.ref t ∈ xs := by rw [e1]; exact List.mem_map.mpr ⟨_, hv, rfl⟩
    obtain ⟨t', i, j, e, ht⟩ := hx _ hm
    cases e
    obtain ⟨its2, r2, ⟨o, ho, hc, n, hd⟩, _⟩ := I.tuple ht
    obtain ⟨u1, u2, rfl, ri, rj⟩ := vals2 r2
    obtain ⟨t1, rfl⟩ := ri
    obtain ⟨t2, rfl⟩ := rj
    exact ⟨i, j, t, o, t1, t2, n, rfl, ho, hc, hd⟩
  · have h3 : ∀ u ∈ out, ∃ a, u = Value.ref a := fun u hu => e2 u (hp.mem_iff.mp hu)
    obtain ⟨n, hn⟩ := hn
    refine ⟨.ref d, upd H d (.lst (out.map backV)), I.laid (t' := s.toks) k hd ⟨?_, out, n, vals_back h3, hn⟩, rfl, q _ d ?_ (I.hok.fresh hd)⟩
    · rw [List.length_map, hp.length_eq, ← rv.length]; exact hz
    · rw [e1]; exact hp.map backV
/-- sorted(xs), xs a list of pairs of ints that stand anywhere: a new list, sorted -/
def rSortedPT (K : PySem.W.Frag) : List V → Hp → VK → Prop := fun vs H Q => ∃ (a : Addr) (xs : List V) (k : V → Int × Int), vs = [V.ref a] ∧ SqL K H a xs ∧ (∀ x ∈ xs, ∃ t, x = V.ref t ∧ SqT K H t [.int (k x).1, .int (k x).2]) ∧
  ∀ ys p, SrtO.Srtd (ltP k) ys → ys.Perm xs → H p = none → Q (.ref p) (upd H p (.lst ys))
theorem cr_sortedPT : CallR X (.builtin "sorted") (rSortedPT X.K) := by
  intro pins s σ H vs us Q I r h
  obtain ⟨a, xs, k, rfl, hs, hx, q⟩ := h
  obtain ⟨its, rv, hl, hz⟩ := I.list hs
  obtain ⟨u, rfl, ru⟩ := vals1 r
  obtain rfl : u = Value.ref a := ru
  obtain ⟨e1, e2⟩ := refs_back rv fun x m => by
    obtain ⟨t, e, _⟩ := hx x m
    exact ⟨t, e⟩
  refine SrtO.sorted_pairsO (k := fun u => k (backV u)) hl.isList (by rw [← rv.length]; exact hz) (fun v hv => ?_) fun h' d out h1 h2 kp hd hn => ?_
  · obtain ⟨t, rfl⟩ := e2 v hv
    have hm : V.ref t ∈ xs := by rw [e1]; exact List.mem_map.mpr ⟨_, hv, rfl⟩
    obtain ⟨t', e, ht⟩ := hx _ hm
    cases e
    obtain ⟨its2, r2, ⟨o, ho, hc, n, hd⟩, _⟩ := I.tuple ht
    obtain ⟨u1, u2, rfl, ri, rj⟩ := vals2 r2
    obtain ⟨t1, rfl⟩ := ri
    obtain ⟨t2, rfl⟩ := rj
    exact ⟨t, o, t1, t2, n, rfl, ho, hc, hd⟩
  · have h3 : ∀ u ∈ out, ∃ a, u = Value.ref a := fun u hu => e2 u (h2.perm.mem_iff.mp hu)
    obtain ⟨n, hn⟩ := hn
    have hb : SrtO.Stb (ltP k) (out.map backV) xs := by
      rw [e1]
      exact SrtO.Stb.map (ltP_swo k) backV h2
    refine ⟨.ref d, upd H d (.lst (out.map backV)), I.laid (t' := s.toks) kp hd ⟨?_, out, n, vals_back h3, hn⟩, rfl, q _ d (SrtO.srtd_map h1) hb.perm (I.hok.fresh hd)⟩
    rw [hb.len]
    exact hz
theorem units65 {k : Nat} {A : Around} (r : Room k A) : A.units + 65 < cLine := by have := r.un; omega
/-- x in t, both any data, t a tuple -/
def rInT (K : PySem.W.Frag) : R2 := fun x y H Q => ∃ d ds, Dp K H x d ∧ Dp K H y (.tuple ds) ∧ SeqAt.shaped d = true ∧ SeqAt.shaped (.tuple ds) = true ∧ Q (.bl (ds.any fun z => PyData.eqv z d)) H
theorem op_inT (hu : X.A.units + 65 < cLine) : OpR X (compareOp .In) (rInT X.K) := by
  intro pins s σ H x y v u Q I rx ry h
  obtain ⟨d, ds, hd, he, sd, se, q⟩ := h
  obtain ⟨as, r1⟩ := Dp.reads I d x v hd rx
  obtain ⟨bs, r2⟩ := Dp.reads I (.tuple ds) y u he ry
  exact SeqAt.in_tuple_reads r2 r1 (SeqAt.canLay_of_shaped se) (SeqAt.canLay_of_shaped sd) (room_in_shaped sd hu) ⟨.bl _, H, I, rfl, q⟩
/-- d != {} -/
def rNeDct : R2 := fun x y H Q => ∃ a b ks, x = .ref a ∧ y = .ref b ∧ H a = some (.dK ks) ∧ H b = some (.dK []) ∧ Q (.bl (!ks.isEmpty)) H
theorem op_neDct (hu : X.A.units < cLine) : OpR X (compareOp .NotEq) rNeDct := by
  intro pins s σ H x y v u Q I rx ry h
  obtain ⟨a, b, ks, rfl, rfl, ea, eb, q⟩ := h
  obtain rfl : v = Value.ref a := rx
  obtain rfl : u = Value.ref b := ry
  obtain ⟨_, ya, va, ra, da⟩ := (show ObjOk X.prog X.w H s.heap a (.dK ks) from I.hok a _ ea)
  obtain ⟨_, yb, vb, rb, db⟩ := (show ObjOk X.prog X.w H s.heap b (.dK []) from I.hok b _ eb)
  have l1 := ra.length
  have l2 := rb.length
  refine PySem.W.keq_ne (knd := mixKind X.prog X.w) (r := true) ya yb da db hu (fun e => ?_) (fin_bl I q ?_)
  · have e0 : ks = [] := List.length_eq_zero_iff.mp (by rw [l1, e, ← l2]; rfl)
    subst e0
    exact hits_all rb ra fun p m => absurd m List.not_mem_nil
  · rw [← l1, ← l2]
    cases ks <;> rfl
/-- dict(zip(xs, ys)), two lists of ints -/
def rDictZip (K : PySem.W.Frag) : List V → Hp → VK → Prop := fun zs H Q => ∃ (a b : Addr) (ns us : List Int), zs = [.ref a, .ref b] ∧ SqL K H a (ns.map V.int) ∧ SqL K H b (us.map V.int) ∧ ns.length ≤ us.length ∧
  ∀ p, H p = none → Q (.ref p) (upd H p (.dK (mergeK [] ((ns.zip us).map fun q => ((.inl q.1 : Key), V.int q.2)))))
def tDictZip (K : PySem.W.Frag) (ta : TA) : TE := fun σ H Q => ta σ H fun zs H1 => rDictZip K zs H1 Q
theorem zip_rel {xs ys : List Value} {ns us : List Int} (r1 : Vals (ns.map V.int) xs) (r2 : Vals (us.map V.int) ys) : KV ((ns.zip us).map fun q => ((.inl q.1 : Key), V.int q.2)) ((ns.zip ys).map fun q => ((.inl q.1 : Key), q.2)) := by
  induction ns generalizing us xs ys with
  | nil => exact .nil
  | cons n ns ih =>
    cases us with
    | nil =>
      cases r2
      exact .nil
    | cons u us =>
      cases r1 with
      | cons a1 b1 =>
        cases r2 with
        | cons a2 b2 => exact .cons ⟨rfl, a2⟩ (ih b1 b2)
theorem pe_dictZip {e e2 : Expr} {ta : TA} {p pz pz2 pos : Pos} (hc : X.calm = true) (hg : Gl X "dict") (hm : X.mg "dict" = none) (hgz : Gl X "zip") (hmz : X.mg "zip" = none) (ha : PA X [e, e2] ta) (hv : bootBuiltins "dict" = some (.type "dict") := by rfl)
    (hs : starEach [e, e2] X.env = (false, eval e X.env) :: starEach [e2] X.env := by rfl) (hpl : (backTo pz2 (starEach [e2] X.env)).any (·.1) = false := by rfl)
    (hs1 : starEach [.Call (.Name "zip" pz) [e, e2] [] pz2] X.env = (false, eval (.Call (.Name "zip" pz) [e, e2] [] pz2) X.env) :: starEach [] X.env := by rfl) :
    PE X (.Call (.Name "dict" p) [.Call (.Name "zip" pz) [e, e2] [] pz2] [] pos) (tDictZip X.K ta) := by
  refine ⟨fun pins s σ H Q I hq => ?_⟩
  refine wpAny_Call_Name_kw (ld_blt I hg hm hv ?_)
  refine PyProof.Rows.callWith_type1 ?_ hs1 rfl
  rw [hs1]
  show wpAny _ _ (spliced ((false, eval (.Call (.Name "zip" pz) [e, e2] [] pz2) X.env) :: backTo pos (starEach [] X.env))) _ _ s
  refine Calls.spliced_cons ?_
  refine Call_ (ld_blt I hgz hmz PyProof.Rows.boot_zip (PyProof.Rows.callWith_type1 (thn (ha.run pz2 pins s σ H _ I hq) fun us s1 ⟨vs, H1, I1, r1, q1⟩ => ?_) hs hpl))
  obtain ⟨a, b, ns, ms, ex, hqx, hqy, hlen, q⟩ := q1
  subst ex
  cases r1 with
  | cons r rr =>
    cases rr with
    | cons r' rr =>
      cases rr
      cases r
      cases r'
      obtain ⟨its, rv, p1, z1⟩ := I1.list hqx
      obtain ⟨its2, rv2, p2, _⟩ := I1.list hqy
      have la : a < s1.heap.objs.size := p1.lt
      have lb : b < s1.heap.objs.size := p2.lt
      have n1 := rv.length
      have n2 := rv2.length
      rw [List.length_map] at n1 n2
      refine call_zip_2 p1.isList p2.isList fun h' hz hTI hTO h1 h2 hsz hk => ?_
      refine Calls.spliced_nil ?_
      have I2 : Inv X pins σ H1 { s1 with heap := h' } := I1.kept (t' := s1.toks) hk
      have ml : min its.toArray.size its2.toArray.size = ns.length := by rw [List.size_toArray, List.size_toArray]; omega
      refine PySem.call_dict_pairs (s := { s1 with heap := h' }) (knd := mixKind X.prog X.w) (kvs := (ns.zip its2).map fun q => ((.inl q.1 : Key), q.2)) (PairArg.zip (s1.heap.objs.size + 4) (s1.heap.objs.size + 2) (s1.heap.objs.size + 3) s1.heap.objs.size (s1.heap.objs.size + 1) a b (PySem.W.ktu_apart s1.heap.objs.size a b la lb) its.toArray its2.toArray)
        (I2.ok.hd hc) ⟨hz, hTI, ⟨_, _, hTO⟩, h1, h2, p1.isList.at fun o e => hk _ o e, p2.isList.at fun o e => hk _ o e⟩ ⟨by rw [List.length_map, List.length_zip, ml]; omega, fun i key v hv => ?_⟩ (by rw [ml]; rw [List.length_map] at z1; exact z1) fun h2' tk hd' hk2 => ?_
      · obtain ⟨e1, e2⟩ := hv
        rw [List.getElem?_toArray] at e1 e2
        have hi : i < ns.length := by
          have := (List.getElem?_eq_some_iff.mp e1).1
          omega
        obtain ⟨u, f1, f2⟩ := rv.get (i := i) (x := .int ns[i]) (by rw [List.getElem?_map, List.getElem?_eq_getElem hi]; rfl)
        rw [e1] at f1
        cases f1
        obtain ⟨t, rfl⟩ := f2
        refine ⟨.inl ns[i], ?_, keyIs_int _ t⟩
        have ez : (ns.zip its2)[i]? = some (ns[i], v) := List.getElem?_zip_eq_some.mpr ⟨List.getElem?_eq_getElem hi, e2⟩
        rw [List.getElem?_map, ez]
        rfl
      · have big : s1.heap.objs.size ≤ h'.objs.size := by rw [hsz]; exact Nat.le_add_right _ _
        have hm0 : (h'.objs.size == sysModules) = false := beq_eq_false_iff_ne.mpr (Nat.ne_of_gt I2.big)
        have rel := zip_rel rv rv2
        have hlen2 : (mergeK [] ((ns.zip ms).map fun q => ((.inl q.1 : Key), V.int q.2))).length ≤ sizeLine := by
          refine Nat.le_trans (length_mergeK _ []) ?_
          rw [List.length_nil, Nat.zero_add, List.length_map, List.length_zip]
          rw [List.length_map] at z1
          omega
        refine ⟨.ref h'.objs.size, upd H1 h'.objs.size (.dK (mergeK [] ((ns.zip ms).map fun q => ((.inl q.1 : Key), V.int q.2)))), I1.laid (t' := tk) (fun c o e => ?_) big (show ObjOk X.prog X.w _ _ _ (.dK _) from ⟨hlen2, hm0, merged [] _, KV.merge rel .nil, hd'⟩), rfl, q _ (I1.hok.fresh big)⟩
        have lc := Heap.lt_size e
        refine hk2 c o (fun m => ?_) (hk c o e)
        rcases List.mem_cons.mp m with rfl | m
        · exact Nat.lt_irrefl _ (Nat.lt_of_le_of_lt (Nat.le_add_right _ _) lc)
        rcases List.mem_cons.mp m with rfl | m
        · exact Nat.lt_irrefl _ (Nat.lt_of_le_of_lt (Nat.le_add_right _ _) lc)
        rcases List.mem_cons.mp m with rfl | m
        · exact Nat.lt_irrefl _ lc
        · rw [List.mem_singleton.mp m] at lc
          exact Nat.lt_irrefl _ (Nat.lt_of_le_of_lt (Nat.le_add_right _ _) lc)
end
end L2

/-! sorted of data: lists of tuples; the items of a dict. -/
namespace L2
open PySem PySem.Spec PyProof.Rows
theorem each_of_paired {α β : Type} {F : α → β → Prop} : ∀ {as : List α} {bs : List β}, Paired F as bs → PySem.W.EachIs F as bs
  | _, _, .nil => .nil
  | _, _, .cons h t => .cons h (each_of_paired t)
theorem paired_of_each {α β : Type} {F : α → β → Prop} : ∀ {as : List α} {bs : List β}, PySem.W.EachIs F as bs → Paired F as bs
  | _, _, .nil => .nil
  | _, _, .cons h t => .cons h (paired_of_each t)
theorem paired_back {β : Type} {F : V → β → Prop} : ∀ {us : List Value} {bs : List β}, Paired (fun u b => F (backV u) b) us bs → Paired F (us.map backV) bs
  | _, _, .nil => .nil
  | _, _, .cons h t => .cons h (paired_back t)
theorem paired_val {β : Type} {F : V → β → Prop} : ∀ {us : List Value} {bs : List β}, Paired F (us.map backV) bs → Paired (fun u b => F (backV u) b) us bs
  | [], _, h => by cases h; exact .nil
  | _ :: us, _, h => by
    cases h with
    | cons a t => exact .cons a (paired_val t)
theorem sortVals_perm {κ : PyProof.Rows.KeyKind} {b : Bool} {vs : List Value} : (PySem.W.sortVals κ b vs vs).Perm vs := by
  unfold PySem.W.sortVals
  have h := (List.mergeSort_perm (vs.zip vs) (PySem.W.sortLe κ.toKeyOrd b fun p : Keyed => PySem.W.keyD κ p.1)).map Prod.snd
  rw [List.map_snd_zip (Nat.le_refl _)] at h
  exact h
section
variable {X : Cx}
theorem paired_reads {pins : List (Addr × Obj)} {σ : L2.St} {H : Hp} {s : Shared} {β : Type} {enc : β → PyData} (I : Inv X pins σ H s) : ∀ {us : List Value} {bs : List β}, Paired (fun u b => Dp X.K H (backV u) (enc b)) us bs → (∀ u ∈ us, ∃ a, u = Value.ref a) → Paired (fun v b => ∃ as, Reads s.heap v (enc b) as) us bs
  | _, _, .nil, _ => .nil
  | u :: us, b :: bs, .cons h t, e2 => by
    refine .cons ?_ (paired_reads I t fun u m => e2 u (List.mem_cons_of_mem _ m))
    obtain ⟨c, rfl⟩ := e2 u List.mem_cons_self
    exact Dp.reads I (enc b) (.ref c) (.ref c) h rfl
/-- sorted(xs), xs a list of tuples that compare; R is what is known of them -/
def rSortedT2 (K : PySem.W.Frag) : List V → Hp → VK → Prop := fun vs H Q => ∃ (a : Addr) (xs : List V) (β : Type) (bs : List β) (enc : β → PyData) (R : V → β → Prop), vs = [V.ref a] ∧ SqL K H a xs ∧ (∀ x ∈ xs, ∃ t, x = V.ref t) ∧
  Paired R xs bs ∧ Paired (fun x b => Dp K H x (enc b)) xs bs ∧ (∀ b b', PySem.W.alike (enc b) (enc b') = true) ∧ (∀ b, ∃ x r, enc b = .tuple (x :: r)) ∧ (∀ b, b ∈ bs → (enc b).depth ≤ 60) ∧
  ∀ ys p, ys.Perm xs → Paired R ys (bs.mergeSort (PySem.W.dataLe false enc)) → H p = none → Q (.ref p) (upd H p (.lst ys))
theorem cr_sortedT2 (hu : X.A.units + 64 < cLine) : CallR X (.builtin "sorted") (rSortedT2 X.K) := by
  intro pins s σ H vs us Q I r h
  obtain ⟨a, xs, β, bs, enc, R, rfl, hs, hx, hR, hD, al, tp, dp, q⟩ := h
  obtain ⟨its, rv, hl, hz⟩ := I.list hs
  obtain ⟨u, rfl, ru⟩ := vals1 r
  obtain rfl : u = Value.ref a := ru
  obtain ⟨e1, e2⟩ := refs_back rv hx
  have er : PySem.W.EachIs (fun v b => ∃ as, Reads s.heap v (enc b) as) its bs := by
    refine each_of_paired ?_
    rw [e1] at hD
    exact paired_reads I (paired_val hD) e2
  have eR : PySem.W.EachIs (fun v b => R (backV v) b) its bs := by
    rw [e1] at hR
    exact each_of_paired (paired_val hR)
  have er' : PySem.W.EachIs (fun v b => ∃ as, Reads (PySem.W.sortingHeap (PySem.W.copyHeap s.heap its) (s.heap.objs.size + 1) its) v (enc b) as) its bs := er.mono fun _ _ ⟨as, r⟩ => ⟨as, PyProof.Rows.Reads.keeps (fun _ _ => PySem.W.sorting_copy_old) r⟩
  have hal := PySem.W.AllAlike.of (bs := bs) al
  have dm : ∀ d, d ∈ bs.map enc → d.depth ≤ 60 := fun d m => by
    obtain ⟨b, mb, rfl⟩ := List.mem_map.mp m
    exact dp b mb
  refine PySem.W.sorted_vals hl.isList (PySem.W.SortsAt.data (s := { s with heap := PySem.W.sortingHeap (PySem.W.copyHeap s.heap its) (s.heap.objs.size + 1) its }) (PySem.W.each_map (R := fun v d => ∃ as, Reads (PySem.W.sortingHeap (PySem.W.copyHeap s.heap its) (s.heap.objs.size + 1) its) v d as) enc er') hal (PySem.W.Sortable.tuples tp) (fun d m => ?_)) (by rw [← rv.length]; exact hz) ?_
  · have := dm d m
    show X.A.units + 1 + 1 + d.depth < cLine
    omega
  · have hp : (PySem.W.sortVals (PySem.W.dataKind (PySem.W.sortingHeap (PySem.W.copyHeap s.heap its) (s.heap.objs.size + 1) its) (bs.map enc)) false its its).Perm its := sortVals_perm
    have hb := paired_back (paired_of_each (PySem.W.sortVals_data (h' := PySem.W.sortingHeap (PySem.W.copyHeap s.heap its) (s.heap.objs.size + 1) its) false eR er' hal))
    generalize PySem.W.sortVals (PySem.W.dataKind (PySem.W.sortingHeap (PySem.W.copyHeap s.heap its) (s.heap.objs.size + 1) its) (bs.map enc)) false its its = out at hp hb ⊢
    have h3 : ∀ u ∈ out, ∃ a, u = Value.ref a := fun u hu => e2 u (hp.mem_iff.mp hu)
    obtain ⟨n, hn⟩ := sortedAll_at s.heap its out.toArray
    refine ⟨.ref (s.heap.objs.size + 1), upd H (s.heap.objs.size + 1) (.lst (out.map backV)), I.laid (t' := s.toks) (fun b o e => sortedAll_old e) (Nat.le_succ _) ⟨?_, out, n, vals_back h3, hn⟩, rfl, q _ _ ?_ hb (I.hok.fresh (Nat.le_succ _))⟩
    · rw [List.length_map, hp.length_eq, ← rv.length]; exact hz
    · rw [e1]; exact hp.map backV
end
end L2

/-! sorted(d.items()), a dict of ints. -/
namespace L2
open PySem PySem.Spec PyProof.Rows L2.DX
abbrev pairI (q : Int × Int) : PyData := .tuple [.int q.1, .int q.2]
def ipK (hp : List (Int × Int)) : List (Key × V) := hp.map fun q => (.inl q.1, .int q.2)
theorem refs_pair {β : Type} {R : Value → β → Prop} (h : ∀ u b, R u b → ∃ t, u = Value.ref t) : ∀ {out : List Value} {bs : List β}, Paired R out bs → ∃ ts : List Addr, out = ts.map Value.ref ∧ Paired (fun t b => R (.ref t) b) ts bs
  | _, _, .nil => ⟨[], rfl, .nil⟩
  | _, _, .cons r t => by
    obtain ⟨ts, e, p⟩ := refs_pair h t
    obtain ⟨a, rfl⟩ := h _ _ r
    exact ⟨a :: ts, by rw [e]; rfl, .cons r p⟩
theorem paired_left {α β : Type} {F : α → β → Prop} : ∀ {xs : List α} {ys : List β} {a : α}, Paired F xs ys → a ∈ xs → ∃ b, F a b
  | _, _, _, .nil, m => absurd m List.not_mem_nil
  | _, _, _, .cons r t, m => by
    rcases List.mem_cons.mp m with rfl | m
    · exact ⟨_, r⟩
    · exact paired_left t m
theorem paired_mp {α β : Type} {F G : α → β → Prop} : ∀ {xs : List α} {ys : List β}, (∀ a b, F a b → G a b) → Paired F xs ys → Paired G xs ys
  | _, _, _, .nil => .nil
  | _, _, h, .cons r t => .cons (h _ _ r) (paired_mp h t)
section
variable {X : Cx}
def rItemsK : V → List V → Hp → VK → Prop := fun x xs H Q => ∃ (a : Addr) (kvs : List (Key × V)), x = .ref a ∧ xs = [] ∧ H a = some (.dK kvs) ∧ ∀ p, H p = none → Q (.ref p) (upd H p (itemsO p a))
theorem mt_itemsK : MtR X "dict.items" rItemsK := by
  intro pins s σ H x xs v us Q I rx rxs h
  obtain ⟨a, kvs, rfl, rfl, ha, q⟩ := h
  cases rx
  cases rxs
  obtain ⟨_, hs, vs, r, o, es, ep, h1, h2, h3, _, h5, _⟩ := (show ObjOk X.prog X.w H s.heap a (.dK kvs) from I.hok a _ ha)
  refine DT.callItems (es := es) (ep := ep) hs ⟨o, h1, h2, h3⟩ ?_
  exact ⟨.ref s.heap.objs.size, upd H s.heap.objs.size (itemsO s.heap.objs.size a), I.laid (t' := s.toks) (fun b u e => Heap.get?_push_of_some _ e) (Nat.le_refl _) (itemsO_ok (Heap.get?_push_size _ rfl)), rfl, q _ (I.hok.fresh (Nat.le_refl _))⟩
def rSortedItI : List V → Hp → VK → Prop := fun vs H Q => ∃ (p a : Addr) (hp : List (Int × Int)), vs = [.ref p] ∧ H p = some (itemsO p a) ∧ H a = some (.dK (ipK hp)) ∧
  ∀ (H' : Hp) (l : Addr) (ts : List Addr), (∀ b o, H b = some o → H' b = some o) → H l = none → H' l = some (.lst (ts.map V.ref)) → Paired (fun (t : Addr) (q : Int × Int) => H' t = some (.tup [.int q.1, .int q.2])) ts (hp.mergeSort (PySem.W.dataLe false pairI)) → (∀ t ∈ ts, H t = none) → Q (.ref l) H'
theorem cr_sortedItI (hc : X.calm = true) (hu : X.A.units + 64 < cLine) : CallR X (.builtin "sorted") rSortedItI := by
  intro pins s σ H xs us Q I r h
  obtain ⟨p, a, hp, rfl, hpp, ha, q⟩ := h
  obtain rfl := Vals.ref1 r
  have view : s.heap.IsItemsView p a := (show ObjOk X.prog X.w H s.heap p (itemsO p a) from I.hok p _ hpp).1
  obtain ⟨hz, hs, vs, r, o, es, ep, h1, h2, h3, _, h5, _⟩ := (show ObjOk X.prog X.w H s.heap a (.dK (ipK hp)) from I.hok a _ ha)
  obtain ⟨vk, vv⟩ := Hx.pairs_keys r h5
  have lk : hp.length = es.toList.length := by
    have := vk.length
    rw [List.length_map, List.length_map] at this
    unfold ipK at this
    rw [List.length_map] at this
    exact this
  have zh : hp.length ≤ sizeLine := by
    unfold ipK at hz
    rw [List.length_map] at hz
    exact hz
  have hh : X.A.handled = none := I.ok.hd hc
  refine DT.sortedI (es := es) (ep := ep) hh view ⟨o, h1, h2, h3⟩ (by rw [← Array.length_toList, ← lk]; exact zh) fun h' tk as hk hlt hl hG => ?_
  rw [← Array.length_toList, ← lk] at hl
  have nd : as.Nodup := List.Pairwise.imp (fun h => Nat.ne_of_lt h) hG.rise
  have pr : ∀ (j : Nat) (b : Addr), as[j]? = some b → ∃ (q : Int × Int) (t u : Tok), hp[j]? = some q ∧ h'.get? b = some { cls := .type "tuple", data := .seq #[.int q.1 t, .int q.2 u] } := by
    intro j b hj
    obtain ⟨en, he, hg⟩ := hG.pairs j b hj
    have hjl : j < hp.length := by
      have := (List.getElem?_eq_some_iff.mp hj).1
      omega
    rw [← Array.getElem?_toList] at he
    obtain ⟨k1, f1, r1⟩ := vk.get (i := j) (x := .int hp[j].1) (by unfold ipK; rw [List.getElem?_map, List.getElem?_map, List.getElem?_eq_getElem hjl]; rfl)
    obtain ⟨k2, f2, r2⟩ := vv.get (i := j) (x := .int hp[j].2) (by unfold ipK; rw [List.getElem?_map, List.getElem?_map, List.getElem?_eq_getElem hjl]; rfl)
    rw [List.getElem?_map, he] at f1 f2
    cases f1
    cases f2
    obtain ⟨t, e1⟩ := r1
    obtain ⟨u, e2⟩ := r2
    have e1 : en.key = Value.int hp[j].1 t := e1
    have e2 : en.val = Value.int hp[j].2 u := e2
    rw [e1, e2] at hg
    exact ⟨hp[j], t, u, List.getElem?_eq_getElem hjl, hg⟩
  have hob : (h'.push { cls := .type "list", data := .seq (as.map Value.ref).toArray }).get? h'.objs.size = some (seqObj "list" (as.map Value.ref).toArray 0) := Heap.get?_push_size _ rfl
  have ka : ∀ b o, h'.get? b = some o → (h'.push { cls := .type "list", data := .seq (as.map Value.ref).toArray }).get? b = some o := fun b o e => Heap.get?_push_of_some _ e
  have ne0 : ∀ b o, h'.get? b = some o → b ≠ h'.objs.size := fun b o e => Nat.ne_of_lt (Heap.lt_size e)
  generalize hh2 : h'.push { cls := .type "list", data := .seq (as.map Value.ref).toArray } = h2 at hob ka ⊢
  let R : Value → Int × Int → Prop := fun v q => ∃ b t u, v = .ref b ∧ b ∈ as ∧ h'.get? b = some { cls := .type "tuple", data := .seq #[.int q.1 t, .int q.2 u] }
  have e0 : Paired R (as.map Value.ref) hp := by
    clear hG hob hh2 ka
    have pr2 : ∀ (L : List Addr) (hq : List (Int × Int)), L.length = hq.length → (∀ b ∈ L, b ∈ as) → (∀ (j : Nat) (b : Addr), L[j]? = some b → ∃ (q : Int × Int) (t u : Tok), hq[j]? = some q ∧ h'.get? b = some { cls := .type "tuple", data := .seq #[.int q.1 t, .int q.2 u] }) → Paired R (L.map Value.ref) hq := by
      intro L
      induction L with
      | nil =>
        intro hq e _ _
        cases hq with
        | nil => exact .nil
        | cons _ _ => cases e
      | cons b L ih =>
        intro hq e m g
        cases hq with
        | nil => cases e
        | cons q hq =>
          obtain ⟨q', t, u, e1, e2⟩ := g 0 b rfl
          cases e1
          exact .cons ⟨b, t, u, rfl, m b List.mem_cons_self, e2⟩ (ih hq (Nat.succ.inj e) (fun c mc => m c (List.mem_cons_of_mem _ mc)) fun j c hc => g (j + 1) c hc)
    exact pr2 as hp hl (fun _ m => m) pr
  have er : PySem.W.EachIs (fun v b => ∃ as, Reads h2 v (pairI b) as ∧ h'.objs.size ∉ as) (as.map Value.ref) hp := by
    refine each_of_paired (paired_mp (fun v q hR => ?_) e0)
    obtain ⟨b, t, u, rfl, _, g⟩ := hR
    exact ⟨_, Reads.tuple (ka _ _ g) rfl rfl (.cons (.int _ _) (.cons (.int _ _) .nil)), by simp⟩
  have hal := PySem.W.AllAlike.of (enc := pairI) (bs := hp) fun b b' => by simp [pairI, PySem.W.alike, PySem.W.alikeAll]
  refine PySem.W.list_sort_data (s := { s with heap := h2, toks := tk }) (enc := pairI) hob (each_of_paired e0) er hal (PySem.W.Sortable.tuples fun b => ⟨_, _, rfl⟩) zh (fun b _ => ?_) fun out ho eo => ?_
  · have e : (pairI b).depth = 1 := by simp [pairI, PyData.depth, PyData.depthAll]
    rw [e]
    show X.A.units + 1 + 1 + 1 < cLine
    omega
  · show EP X pins σ Q (.ref h'.objs.size) { s with heap := sortedHeap h2 h'.objs.size (as.map Value.ref) (List.toArray out), toks := tk }
    obtain ⟨ts, rfl, pt⟩ := refs_pair (fun u b h => let ⟨t, _, _, e, _⟩ := h; ⟨t, e⟩) (paired_of_each eo)
    have kF : ∀ b o, b ≠ h'.objs.size → h2.get? b = some o → (sortedHeap h2 h'.objs.size (as.map Value.ref) (List.toArray (ts.map Value.ref))).get? b = some o := fun b o hb e => (PyProof.Rows.sortedHeap_old hb (Heap.lt_size e)).trans e
    have kS : ∀ b o, s.heap.get? b = some o → (sortedHeap h2 h'.objs.size (as.map Value.ref) (List.toArray (ts.map Value.ref))).get? b = some o := fun b o e => kF b o (ne0 _ _ (hk b o e)) (ka _ _ (hk b o e))
    obtain ⟨eF, heF⟩ := PyProof.Rows.sortedHeap_at (vs := as.map Value.ref) (out := List.toArray (ts.map Value.ref)) hob
    have I1 : Inv X pins σ H { s with heap := sortedHeap h2 h'.objs.size (as.map Value.ref) (List.toArray (ts.map Value.ref)), toks := tk } := I.kept (t' := tk) kS
    have hn0 : H h'.objs.size = none := I.hok.fresh (Nat.le_of_lt hlt)
    have lt : ts.length = hp.length := by
      have := ho
      rw [List.length_map] at this
      exact this
    have I2 : Inv X pins σ (upd H h'.objs.size (.lst (ts.map V.ref))) { s with heap := sortedHeap h2 h'.objs.size (as.map Value.ref) (List.toArray (ts.map Value.ref)), toks := tk } :=
      I1.take (h' := sortedHeap h2 h'.objs.size (as.map Value.ref) (List.toArray (ts.map Value.ref))) (t' := tk) (fun b ob _ e => e) (I.fpOk (Nat.le_of_lt hlt) hn0) ⟨by rw [List.length_map, lt]; exact zh, ts.map Value.ref, eF, LiI.vals_refs ts, heF⟩
    have above : ∀ b ∈ as, s.heap.objs.size ≤ b ∧ H b = none := fun b hb => ⟨Nat.le_of_lt (hG.above b hb), I.hok.fresh (Nat.le_of_lt (hG.above b hb))⟩
    obtain ⟨H2, I3, g, qt⟩ := takeT (P := fun b vs => ∀ q : Int × Int, (∃ t u, h'.get? b = some { cls := .type "tuple", data := .seq #[.int q.1 t, .int q.2 u] }) → vs = [.int q.1, .int q.2]) I as _ I2 nd fun b hb => by
      obtain ⟨j, hj⟩ := List.mem_iff_getElem?.mp hb
      obtain ⟨q, t, u, hq, hg⟩ := pr j b hj
      refine ⟨(above b hb).1, ?_, [.int q.1, .int q.2], fun q2 ⟨t2, u2, g2⟩ => ?_, fun H2 => ⟨by show 2 ≤ sizeLine; decide, [.int q.1 t, .int q.2 u], .cons ⟨t, rfl⟩ (.cons ⟨u, rfl⟩ .nil), ⟨_, kF b _ (ne0 _ _ hg) (ka _ _ hg), rfl, _, rfl⟩⟩⟩
      · rw [upd_ne (ne0 _ _ hg)]
        exact (above b hb).2
      · rw [hg] at g2
        have g3 := Option.some.inj g2
        have g4 : PySem.Data.seq #[.int q.1 t, .int q.2 u] 0 = PySem.Data.seq #[.int q2.1 t2, .int q2.2 u2] 0 := congrArg Obj.data g3
        injection g4 with g5
        have g6 : [Value.int q.1 t, Value.int q.2 u] = [Value.int q2.1 t2, Value.int q2.2 u2] := congrArg Array.toList g5
        injection g6 with g7 g8
        injection g8 with g9
        injection g7 with g7
        injection g9 with g9
        rw [g7, g9]
    refine ⟨.ref h'.objs.size, H2, I3, rfl, q H2 _ ts (fun b o e => g b o (by rw [upd_ne (ne_of_none e hn0)]; exact e)) hn0 (g _ _ upd_same) (paired_mp (fun t b hR => ?_) pt) fun t ht => ?_⟩
    · obtain ⟨b', t', u', e, m, hg⟩ := hR
      cases e
      obtain ⟨vs, hv, hq⟩ := qt t m
      rw [hq, hv b ⟨t', u', hg⟩]
    · have hp2 := Paired.mapP pt fun a b h => h
      have : t ∈ as := by
        obtain ⟨b, hR⟩ := paired_left pt ht
        obtain ⟨_, _, _, e, m, _⟩ := hR
        cases e
        exact m
      exact (above t this).2
end
end L2

/-! dict(zip(xs, range(n))), xs a list of n ints. -/
namespace L2.Zr
open PySem PySem.Spec PyProof.Rows L2.Zx
section
variable {prog : Program} {w : World} {A : Around} {E : Value → Shared → Prop} {s : Shared}
theorem next_rng {it : Addr} {x left : Int} {Q : Value → Shared → Prop} (hit : IsRangeIter s.heap it x left 1) (hleft : 0 < left)
    (hQ : ∀ h', IsRangeIter h' it (x + 1) (left - 1) 1 → Heap.SameBut it s.heap h' → Q (.int x s.toks) { s with heap := h', toks := s.toks + 1 }) :
    wpAny (model prog w) A (Builtin.SmallTypes.nextOf (.ref it)) Q E s := by
  have hT : s.TypeIs (.ref it) "range_iterator" := ⟨_, hit, rfl⟩
  unfold Builtin.SmallTypes.nextOf
  refine wpAny_bind (wpAny_callSpecial?_slot (name := Str.ofString "__next__") hT F.slot_range_iterator_next
    (call_meets F.slot_range_iterator_next hT F.entry_range_iterator_next (F.args_range_iterator_next_1 _) (AutoRange.range_iterator___next___range_iterator_1 it x left 1 (by omega)) ⟨hit, ?_⟩))
  exact wpAny_pure (hQ _ (Heap.get?_update_self _ (Heap.get?_update_self _ hit rfl) rfl) ((Heap.SameBut.update ..).trans (Heap.SameBut.update ..)))
theorem item_out {z TI TO i1 i2 l1 a : Addr} {f : Bool} {oa : Obj} {k : Nat} {lo left : Int} {xs : Array Value} {x : Value} {Q : Option Value → Shared → Prop} (D : ZipApart z TI TO i1 i2 l1 l1)
    (hz : ZipF s.heap z TI TO a f) (ha : s.heap.get? a = some oa) (hTI : IsPair s.heap TI (.ref i1) (.ref i2))
    (h1 : s.heap.IsListIter i1 l1 k) (h2 : IsRangeIter s.heap i2 lo left 1) (hl1 : s.heap.IsList l1 xs) (hx : xs[k]? = some x) (hy : 0 < left)
    (hQ : ∀ h', ZipF h' z TI TO a true → h'.IsListIter i1 l1 (k + 1) → IsRangeIter h' i2 (lo + 1) (left - 1) 1 → IsPair h' s.heap.objs.size x (.int lo s.toks) →
      (∀ c o, c ≠ z → c ≠ i1 → c ≠ i2 → s.heap.get? c = some o → h'.get? c = some o) → Q (some (.ref s.heap.objs.size)) { s with heap := h', toks := s.toks + 1 }) :
    wpAny (model prog w) A (pyNext (.ref z)) Q E s := by
  have hT : s.TypeIs (.ref z) "zip" := ⟨_, hz, rfl⟩
  unfold pyNext
  refine wpAny_bind (wpAny_attempt (wpAny_callSpecial?_slot (name := Str.ofString "__next__") hT F.slot_zip_next
    (wpAny_call_entry F.slot_zip_next hT F.entry_zip_next ?_ (F.args_zip_next_1 _))))
  show wpAny _ _ (field (.ref z) 2 >>= _) _ _ _
  refine wpAny_bind (wpAny_field hz rfl (x := .bool false) rfl ?_)
  show wpAny _ _ (field (.ref z) 3 >>= _) _ _ _
  refine wpAny_bind (wpAny_field hz rfl (x := .ref TI) rfl ?_)
  refine wpAny_bind (wpAny_seqItems hTI rfl ?_)
  show wpAny _ _ (Builtin.SmallTypes.ownedTupleIsFree (.ref z) >>= _) _ _ _
  refine wpAny_bind (owned_out hz ha fun h₃ hz₃ hs₃ => ?_)
  simp only [Bool.false_eq_true, if_false]
  rw [← Array.forIn_toList]
  simp only [List.forIn_cons, List.forIn_nil]
  refine wpAny_bind ?_
  refine wpAny_bind ?_
  refine wpAny_bind (wpAny_holding ?_)
  show wpAny _ _ (Builtin.SmallTypes.nextOf (.ref i1) >>= _) _ _ _
  refine wpAny_bind (wpAny_nextOf_list_item (h1.extBut hs₃.extBut D.i1z) (hl1.extBut hs₃.extBut D.l1z) hx fun h₄ h1₄ hs₄ => wpAny_pure ?_)
  refine wpAny_pure ?_
  dsimp only
  refine wpAny_bind ?_
  refine wpAny_bind (wpAny_holding ?_)
  show wpAny _ _ (Builtin.SmallTypes.nextOf (.ref i2) >>= _) _ _ _
  have h2₄ : IsRangeIter h₄ i2 lo left 1 := hs₄.extBut _ _ D.i12.symm (hs₃.extBut _ _ D.i2z h2)
  refine wpAny_bind (next_rng (s := { s with heap := h₄ }) h2₄ hy fun h₅ h2₅ hs₅ => wpAny_pure ?_)
  refine wpAny_pure ?_
  dsimp only
  refine wpAny_pure ?_
  dsimp only
  refine wpAny_bind (wpAny_newTuple (hsz := by show 2 ≤ sizeLine; decide) ?_)
  have up : ∀ c o, c ≠ z → c ≠ i1 → c ≠ i2 → s.heap.get? c = some o → h₅.get? c = some o := fun c o c1 c2 c3 e => hs₅.extBut _ _ c3 (hs₄.extBut _ _ c2 (hs₃.extBut _ _ c1 e))
  have hsz : h₅.objs.size = s.heap.objs.size := by rw [hs₅.1, hs₄.1, hs₃.1]
  refine wpAny_pure ⟨_, rfl, wpAny_pure ?_⟩
  show Q (some (.ref h₅.objs.size)) _
  have hz₅ : ZipF h₅ z TI TO a true := hs₅.extBut _ _ D.i2z.symm (hs₄.extBut _ _ D.i1z.symm hz₃)
  have h1₅ : h₅.IsListIter i1 l1 (k + 1) := h1₄.extBut hs₅.extBut D.i12
  have hT₆ : IsPair (h₅.push { cls := .type "tuple", data := .seq #[x, .int lo s.toks] }) h₅.objs.size x (.int lo s.toks) := Heap.get?_push_size _ rfl
  rw [hsz] at hT₆ ⊢
  exact hQ _ (Heap.get?_push_of_some _ hz₅) (h1₅.at fun o e => Heap.get?_push_of_some _ e) (Heap.get?_push_of_some _ h2₅) hT₆ fun c o c1 c2 c3 e => Heap.get?_push_of_some _ (up c o c1 c2 c3 e)
theorem item_new {z TI TO i1 i2 l1 : Addr} {k : Nat} {lo left : Int} {xs : Array Value} {x a b : Value} {Q : Option Value → Shared → Prop} (D : ZipApart z TI TO i1 i2 l1 l1)
    (hz : IsZip s.heap z TI TO .none) (hTI : IsPair s.heap TI (.ref i1) (.ref i2)) (hTO : IsPair s.heap TO a b)
    (h1 : s.heap.IsListIter i1 l1 k) (h2 : IsRangeIter s.heap i2 lo left 1) (hl1 : s.heap.IsList l1 xs) (hx : xs[k]? = some x) (hy : 0 < left)
    (hQ : ∀ h', ZipF h' z TI TO s.heap.objs.size false → h'.IsListIter i1 l1 (k + 1) → IsRangeIter h' i2 (lo + 1) (left - 1) 1 → IsPair h' s.heap.objs.size x (.int lo s.toks) →
      (∀ c o, c ≠ z → c ≠ TO → c ≠ i1 → c ≠ i2 → s.heap.get? c = some o → h'.get? c = some o) → Q (some (.ref s.heap.objs.size)) { s with heap := h', toks := s.toks + 1 }) :
    wpAny (model prog w) A (pyNext (.ref z)) Q E s := by
  have hT : s.TypeIs (.ref z) "zip" := ⟨_, hz, rfl⟩
  unfold pyNext
  refine wpAny_bind (wpAny_attempt (wpAny_callSpecial?_slot (name := Str.ofString "__next__") hT F.slot_zip_next
    (wpAny_call_entry F.slot_zip_next hT F.entry_zip_next ?_ (F.args_zip_next_1 _))))
  show wpAny _ _ (field (.ref z) 2 >>= _) _ _ _
  refine wpAny_bind (wpAny_field hz rfl (x := .bool false) rfl ?_)
  show wpAny _ _ (field (.ref z) 3 >>= _) _ _ _
  refine wpAny_bind (wpAny_field hz rfl (x := .ref TI) rfl ?_)
  refine wpAny_bind (wpAny_seqItems hTI rfl ?_)
  show wpAny _ _ (Builtin.SmallTypes.ownedTupleIsFree (.ref z) >>= _) _ _ _
  refine wpAny_bind ?_
  unfold Builtin.SmallTypes.ownedTupleIsFree
  refine wpAny_bind (wpAny_field hz rfl (x := .none) rfl (wpAny_pure ?_))
  simp only [if_true]
  refine wpAny_bind (wpAny_rule ?_)
  refine wpAny_bind (wpAny_field hz rfl (x := .ref TO) rfl ?_)
  refine wpAny_bind (wpAny_setField_rec hz (by simp) fun g₁ hz₁ hs₁ => ?_)
  replace hz₁ : IsZip g₁ z TI TO .ellipsis := hz₁
  refine wpAny_bind ?_
  simp only [List.zipIdx_cons, List.zipIdx_nil, List.forIn_cons, List.forIn_nil]
  refine wpAny_bind (wpAny_bind (wpAny_onRaise ?_))
  show wpAny _ _ (Builtin.SmallTypes.nextOf (.ref i1) >>= _) _ _ _
  refine wpAny_bind (wpAny_nextOf_list_item (h1.extBut hs₁.extBut D.i1z) (hl1.extBut hs₁.extBut D.l1z) hx fun g₂ h1₂ hs₂ => wpAny_pure ?_)
  have hTO₂ : IsPair g₂ TO a b := hs₂.extBut _ _ D.TOi1 (hs₁.extBut _ _ D.TOz hTO)
  refine wpAny_bind (wpAny_seqItems hTO₂ rfl ?_)
  refine wpAny_bind (wpAny_updateSeq_pair hTO₂ fun g₃ hTO₃ hs₃ => ?_)
  replace hTO₃ : IsPair g₃ TO x b := hTO₃
  refine wpAny_bind (wpAny_letGo (wpAny_pure ?_))
  refine wpAny_bind (wpAny_bind (wpAny_onRaise ?_))
  show wpAny _ _ (Builtin.SmallTypes.nextOf (.ref i2) >>= _) _ _ _
  have h2₃ : IsRangeIter g₃ i2 lo left 1 := hs₃.extBut _ _ D.TOi2.symm (hs₂.extBut _ _ D.i12.symm (hs₁.extBut _ _ D.i2z h2))
  refine wpAny_bind (next_rng (s := { s with heap := g₃ }) h2₃ hy fun g₄ h2₄ hs₄ => wpAny_pure ?_)
  have hTO₄ : IsPair g₄ TO x b := hs₄.extBut _ _ D.TOi2 hTO₃
  refine wpAny_bind (wpAny_seqItems hTO₄ rfl ?_)
  refine wpAny_bind (wpAny_updateSeq_pair (s := { s with heap := g₄, toks := s.toks + 1 }) hTO₄ fun g₅ hTO₅ hs₅ => ?_)
  replace hTO₅ : IsPair g₅ TO x (.int lo s.toks) := hTO₅
  refine wpAny_bind (wpAny_letGo (wpAny_pure (wpAny_pure ?_)))
  refine wpAny_bind (wpAny_seqItems hTO₅ rfl ?_)
  refine wpAny_bind (wpAny_newTuple ?_)
  have hsz : g₅.objs.size = s.heap.objs.size := by rw [hs₅.1, hs₄.1, hs₃.1, hs₂.1, hs₁.1]
  have hz₅ : IsZip g₅ z TI TO .ellipsis := hs₅.extBut _ _ D.TOz.symm (hs₄.extBut _ _ D.i2z.symm (hs₃.extBut _ _ D.TOz.symm (hs₂.extBut _ _ D.i1z.symm hz₁)))
  have up : ∀ c o, c ≠ z → c ≠ TO → c ≠ i1 → c ≠ i2 → s.heap.get? c = some o → g₅.get? c = some o := fun c o c1 c2 c3 c4 e => hs₅.extBut _ _ c2 (hs₄.extBut _ _ c4 (hs₃.extBut _ _ c2 (hs₂.extBut _ _ c3 (hs₁.extBut _ _ c1 e))))
  have h1₅ : g₅.IsListIter i1 l1 (k + 1) := ((h1₂.extBut hs₃.extBut D.TOi1.symm).extBut hs₄.extBut D.i12).extBut hs₅.extBut D.TOi1.symm
  have h2₅ : IsRangeIter g₅ i2 (lo + 1) (left - 1) 1 := hs₅.extBut _ _ D.TOi2.symm h2₄
  have zlt : z < g₅.objs.size := Heap.lt_size hz₅
  show wpAny _ _ (Builtin.SmallTypes.ownedTupleHandOut (.ref z) (.ref g₅.objs.size) >>= _) _ _ _
  refine wpAny_bind ?_
  unfold Builtin.SmallTypes.ownedTupleHandOut
  have hz₆ : IsZip (g₅.push { cls := .type "tuple", data := .seq #[x, .int lo s.toks] }) z TI TO .ellipsis := Heap.get?_push_of_some _ hz₅
  refine wpAny_bind (wpAny_setField_rec hz₆ (by simp) fun g₇ hz₇ hs₇ => ?_)
  replace hz₇ : IsZip g₇ z TI TO (rawInt g₅.objs.size) := hz₇
  refine wpAny_setField_rec hz₇ (by simp) fun g₈ hz₈ hs₈ => ?_
  replace hz₈ : ZipF g₈ z TI TO g₅.objs.size false := hz₈
  have up2 : ∀ c o, c ≠ z → g₅.get? c = some o → g₈.get? c = some o := fun c o c1 e => hs₈.extBut _ _ c1 (hs₇.extBut _ _ c1 (Heap.get?_push_of_some _ e))
  have hT₈ : IsPair g₈ g₅.objs.size x (.int lo s.toks) := hs₈.extBut _ _ (Nat.ne_of_gt zlt) (hs₇.extBut _ _ (Nat.ne_of_gt zlt) (Heap.get?_push_size _ rfl))
  rw [hsz] at hz₈ hT₈
  refine wpAny_pure ⟨_, rfl, wpAny_pure ?_⟩
  show Q (some (.ref g₅.objs.size)) _
  rw [hsz]
  exact hQ g₈ hz₈ (h1₅.at fun o e => up2 _ o D.i1z e) (up2 _ _ D.i2z h2₅) hT₈ fun c o c1 c2 c3 c4 e => up2 c o c1 (up c o c1 c2 c3 c4 e)
end
section
variable {prog : Program} {w : World}
theorem arg (z TI TO i1 i2 l1 : Addr) (D : ZipApart z TI TO i1 i2 l1 l1) (xs : Array Value) (n : Nat) (hn : xs.size = n) (h0 : 0 < n) :
    PairArg prog w "zip" z [z, TI, TO, i1, i2, l1] [z, TO, i1, i2] n (fun i k v => xs[i]? = some k ∧ ∃ t, v = .int (i : Int) t)
      (fun h => IsZip h z TI TO .none ∧ IsPair h TI (.ref i1) (.ref i2) ∧ (∃ a b, IsPair h TO a b) ∧ h.IsListIter i1 l1 0 ∧ IsRangeIter h i2 0 n 1 ∧ h.IsList l1 xs) where
  type := fun s ok => ⟨_, ok.1, rfl⟩
  notDict := by decide
  keep := fun h h' ok hk => by
    obtain ⟨hz, hTI, ⟨a, b, hTO⟩, h1, h2, hl1⟩ := ok
    exact ⟨hk _ _ hz, hk _ _ hTI, ⟨a, b, hk _ _ hTO⟩, h1.at fun o e => hk _ o e, hk _ _ h2, hl1.at fun o e => hk _ o e⟩
  there := fun h ok b hb => by
    obtain ⟨hz, hTI, ⟨a, c, hTO⟩, ⟨o1, h1, _⟩, h2, ⟨o3, hl1, _⟩⟩ := ok
    simp only [List.mem_cons, List.not_mem_nil, or_false] at hb
    rcases hb with rfl | rfl | rfl | rfl | rfl | rfl
    all_goals first | exact ⟨_, hz⟩ | exact ⟨_, hTI⟩ | exact ⟨_, hTO⟩ | exact ⟨_, h1⟩ | exact ⟨_, h2⟩ | exact ⟨_, hl1⟩
  sub := fun b hb => by simp at hb ⊢; rcases hb with rfl | rfl | rfl | rfl <;> simp
  noKeys := fun A s Q E hA ok h => getAttrOr_miss_zip ok.1 rfl rfl rfl zip_no_keys (by decide +kernel) hA h
  iter := fun A s d Q E hA ok hd hdf h => by
    obtain ⟨hz, hTI, ⟨a, b, hTO⟩, h1, h2, hl1⟩ := ok
    simp only [List.mem_cons, List.not_mem_nil, or_false, not_or] at hdf
    obtain ⟨dz, dTI, dTO, di1, di2, dl1⟩ := hdf
    refine wpAny_pyIter_zip hz (h z [z, TO, i1, i2] (fun i h => IsPair h TI (.ref i1) (.ref i2) ∧ h.IsListIter i1 l1 i ∧ IsRangeIter h i2 i ((n : Int) - i) 1 ∧ h.IsList l1 xs ∧
      ((i = 0 ∧ IsZip h z TI TO .none ∧ ∃ a b, IsPair h TO a b) ∨ (0 < i ∧ ∃ T f oT, ZipF h z TI TO T f ∧ h.get? T = some oT ∧ T ≠ z ∧ T ≠ i1 ∧ T ≠ i2 ∧ T ≠ d))) s.heap s.toks ?_
      ⟨hTI, h1, by simpa using h2, hl1, .inl ⟨rfl, hz, a, b, hTO⟩⟩ (fun _ _ e => e) fun b hb => .inl hb)
    exact {
      off := fun hm => by
        simp only [List.mem_cons, List.not_mem_nil, or_false] at hm
        rcases hm with e | e | e | e
        · exact dz e
        · exact dTO e
        · exact di1 e
        · exact di2 e
      frame := fun i g g' st hk => by
        obtain ⟨hTI, h1, h2, hl1, hz⟩ := st
        refine ⟨hk _ _ (Ne.symm dTI) hTI, h1.at fun o e => hk _ o (Ne.symm di1) e, hk _ _ (Ne.symm di2) h2, hl1.at fun o e => hk _ o (Ne.symm dl1) e, ?_⟩
        rcases hz with ⟨i0, hz, a, b, hTO⟩ | ⟨i0, T, f, oT, hz, hT, r1, r2, r3, r4⟩
        · exact .inl ⟨i0, hk _ _ (Ne.symm dz) hz, a, b, hk _ _ (Ne.symm dTO) hTO⟩
        · exact .inr ⟨i0, T, f, oT, hk _ _ (Ne.symm dz) hz, hk _ _ r4 hT, r1, r2, r3, r4⟩
      item := fun i s₁ Q₁ E₁ hi st hds hQ => by
        obtain ⟨hTI, h1, h2, hl1, hz⟩ := st
        have ex := Array.getElem?_eq_getElem (xs := xs) (i := i) (by omega)
        have lt : ∀ {c o}, s₁.heap.get? c = some o → s₁.heap.objs.size ≠ c := fun e => Nat.ne_of_gt (Heap.lt_size e)
        have n1 : s₁.heap.objs.size ≠ i1 := let ⟨_, e, _⟩ := h1; lt e
        have n2 : s₁.heap.objs.size ≠ i2 := lt h2
        have e1 : ((i : Int) + 1) = ((i + 1 : Nat) : Int) := by omega
        have e2 : (n : Int) - i - 1 = (n : Int) - ((i + 1 : Nat) : Int) := by omega
        rcases hz with ⟨i0, hz, a, b, hTO⟩ | ⟨i0, T, f, oT, hz, hT, r1, r2, r3, r4⟩
        · refine item_new D hz hTI hTO h1 h2 hl1 ex (by omega) fun g a1 a3 a4 a5 hk => ?_
          rw [e1, e2] at a4
          exact hQ s₁.heap.objs.size _ _ g _ ⟨ex, _, rfl⟩ (.inl ⟨_, a5, rfl, _, rfl⟩)
            ⟨hk _ _ D.TIz D.TITO D.TIi1 D.TIi2 hTI, a3, a4, hl1.at fun o e => hk _ o D.l1z D.l1TO D.l1i1 D.l1i2 e, .inr ⟨Nat.succ_pos i, s₁.heap.objs.size, false, _, a1, a5, lt hz, n1, n2, Nat.ne_of_gt hds⟩⟩
            fun c o hc e => hk c o (fun x => hc (by simp [x])) (fun x => hc (by simp [x])) (fun x => hc (by simp [x])) (fun x => hc (by simp [x])) e
        · refine item_out D hz hT hTI h1 h2 hl1 ex (by omega) fun g a1 a3 a4 a5 hk => ?_
          rw [e1, e2] at a4
          exact hQ s₁.heap.objs.size _ _ g _ ⟨ex, _, rfl⟩ (.inl ⟨_, a5, rfl, _, rfl⟩)
            ⟨hk _ _ D.TIz D.TIi1 D.TIi2 hTI, a3, a4, hl1.at fun o e => hk _ o D.l1z D.l1i1 D.l1i2 e, .inr ⟨Nat.succ_pos i, T, true, oT, a1, hk _ _ r1 r2 r3 hT, r1, r2, r3, r4⟩⟩
            fun c o hc e => hk c o (fun x => hc (by simp [x])) (fun x => hc (by simp [x])) (fun x => hc (by simp [x])) e
      done := fun s₁ Q₁ E₁ st hQ => by
        obtain ⟨hTI, h1, h2, hl1, hz⟩ := st
        rcases hz with ⟨i0, _⟩ | ⟨i0, T, f, oT, hz, hT, r1, r2, r3, r4⟩
        · omega
        · exact end_out hA D hz hT hTI h1 hl1 (Array.getElem?_eq_none (by omega)) fun g hk => hQ g s₁.toks fun c o hc e => hk c o (fun x => hc (by simp [x])) (fun x => hc (by simp [x])) e }
end
end L2.Zr

/-! zip(xs, range(n)) is made; dict of it. -/
namespace L2.Zr
open PySem PySem.Spec PyProof.Rows L2.Zx
abbrev g1 (h : Heap) (l1 : Addr) : Heap := h.push { cls := .type "list_iterator", data := .fields #[.ref l1, .int 0 0] }
abbrev g2 (h : Heap) (l1 : Addr) (n : Int) : Heap := (g1 h l1).push { cls := .type "range_iterator", data := .fields #[rawInt 0, rawInt n, rawInt 1] }
abbrev g3 (h : Heap) (l1 : Addr) (n : Int) : Heap := (g2 h l1 n).push { cls := .type "tuple", data := .seq #[.ref h.objs.size, .ref (g1 h l1).objs.size] }
abbrev g4 (h : Heap) (l1 : Addr) (n : Int) : Heap := (g3 h l1 n).push { cls := .type "tuple", data := .seq #[.none, .none] }
abbrev g5 (h : Heap) (l1 : Addr) (n : Int) : Heap := (g4 h l1 n).push { cls := .type "zip", data := .fields #[.none, .bool false, .bool false, .ref (g2 h l1 n).objs.size, .ref (g3 h l1 n).objs.size] }
theorem zip_made (l1 r : Addr) (xs : Array Value) (n : Int) (t u v : Tok) (hs : Builtin.Range.small 0 n 1 = true) (hz : Builtin.Range.rangeSize 0 n 1 = n) :
    Meets (Builtin.«zip.__new__» ⟨[.type "zip", .ref l1, .ref r], []⟩) (fun _ R s => s.heap.IsList l1 xs ∧ IsRange s.heap r 0 n 1 t u v ∧
      R (.ok (.ret (.ref (g4 s.heap l1 n).objs.size))) { s with heap := g5 s.heap l1 n }) :=
  .of_wp fun prog w A R s h => by
    obtain ⟨hp, g, d, tk, os⟩ := s; obtain ⟨hl1, hr, h⟩ := h
    have hsub := sub_zip
    have hL1 : Heap.IsList (Shared.heap ⟨hp, g, d, tk, os⟩) l1 xs := hl1
    have hR : IsRange (Shared.heap ⟨hp.push { cls := .type "list_iterator", data := .fields #[.ref l1, .int 0 0] }, g, d, tk, os⟩) r 0 n 1 t u v := Heap.get?_push_of_some _ hr
    wp_walk using wpAny_pyIter_list hL1, wpAny_pyIter_range hR hs
    rw [hz]
    exact ⟨_, rfl, h⟩
section
variable {prog : Program} {w : World} {A : Around} {E : Value → Shared → Prop} {s : Shared}
theorem call_zip_rng {l1 r : Addr} {xs : Array Value} {n : Int} {t u v : Tok} {Q : Value → Shared → Prop} (hl1 : s.heap.IsList l1 xs) (hr : IsRange s.heap r 0 n 1 t u v) (hs : Builtin.Range.small 0 n 1 = true) (hz : Builtin.Range.rangeSize 0 n 1 = n)
    (h : ∀ h', IsZip h' (s.heap.objs.size + 4) (s.heap.objs.size + 2) (s.heap.objs.size + 3) .none → IsPair h' (s.heap.objs.size + 2) (.ref s.heap.objs.size) (.ref (s.heap.objs.size + 1)) →
      IsPair h' (s.heap.objs.size + 3) .none .none → h'.IsListIter s.heap.objs.size l1 0 → IsRangeIter h' (s.heap.objs.size + 1) 0 n 1 → h'.objs.size = s.heap.objs.size + 5 →
      (∀ c o, s.heap.get? c = some o → h'.get? c = some o) → Q (.ref (s.heap.objs.size + 4)) { s with heap := h' }) :
    wpAny (model prog w) A (call (.type "zip") [.ref l1, .ref r]) Q E s := by
  refine callType_new F.called_zip (by decide) (F.typeCall_zip_2 _ _) (F.newCall_zip_2 _ _) (fun obj => F.args_object_init_3 obj _ _) F.entry_zip_new (zip_made l1 r xs n t u v hs hz) ⟨hl1, hr, ?_⟩
  have z1 : (g1 s.heap l1).objs.size = s.heap.objs.size + 1 := Heap.size_push ..
  have z2 : (g2 s.heap l1 n).objs.size = s.heap.objs.size + 2 := by rw [Heap.size_push, z1]
  have z3 : (g3 s.heap l1 n).objs.size = s.heap.objs.size + 3 := by rw [Heap.size_push, z2]
  have z4 : (g4 s.heap l1 n).objs.size = s.heap.objs.size + 4 := by rw [Heap.size_push, z3]
  have z5 : (g5 s.heap l1 n).objs.size = s.heap.objs.size + 5 := by rw [Heap.size_push, z4]
  have e5 : (g5 s.heap l1 n).get? (g4 s.heap l1 n).objs.size = some _ := Heap.get?_push_size _ rfl
  have e4 : (g5 s.heap l1 n).get? (g3 s.heap l1 n).objs.size = some _ := Heap.get?_push_of_some _ (Heap.get?_push_size _ rfl)
  have e3 : (g5 s.heap l1 n).get? (g2 s.heap l1 n).objs.size = some _ := Heap.get?_push_of_some _ (Heap.get?_push_of_some _ (Heap.get?_push_size _ rfl))
  have e2 : (g5 s.heap l1 n).get? (g1 s.heap l1).objs.size = some _ := Heap.get?_push_of_some _ (Heap.get?_push_of_some _ (Heap.get?_push_of_some _ (Heap.get?_push_size _ rfl)))
  have e1 : (g5 s.heap l1 n).get? s.heap.objs.size = some _ := Heap.get?_push_of_some _ (Heap.get?_push_of_some _ (Heap.get?_push_of_some _ (Heap.get?_push_of_some _ (Heap.get?_push_size _ rfl))))
  show _ ∧ _
  rw [z2, z3, z4] at e5
  rw [z1, z2] at e3
  rw [z3] at e4
  rw [z1] at e2
  rw [z4]
  exact ⟨⟨_, e5, rfl⟩, h _ e5 e3 e4 ⟨_, e1, rfl, rfl⟩ e2 z5 fun c o x => Heap.get?_push_of_some _ (Heap.get?_push_of_some _ (Heap.get?_push_of_some _ (Heap.get?_push_of_some _ (Heap.get?_push_of_some _ x))))⟩
end
def rows (ns : List Int) (vs : List Value) : List (Key × Value) := (ns.zip vs).map fun q => (.inl q.1, q.2)
theorem rows_len (ns : List Int) (vs : List Value) : (rows ns vs).length ≤ vs.length := by
  unfold rows
  rw [List.length_map, List.length_zip]
  exact Nat.min_le_right _ _
theorem rows_snoc : ∀ {ns : List Int} {vs : List Value} {n : Int} {v : Value}, ns[vs.length]? = some n → rows ns (vs ++ [v]) = rows ns vs ++ [(.inl n, v)]
  | [], _, _, _, h => by cases h
  | m :: ns, [], n, v, h => by
    cases h
    show rows (m :: ns) [v] = [(.inl m, v)]
    unfold rows
    rw [List.zip_cons_cons, List.zip_nil_right]
    rfl
  | m :: ns, u :: vs, n, v, h => by
    have ih := rows_snoc (ns := ns) (vs := vs) (n := n) (v := v) (by simpa using h)
    show rows (m :: ns) (u :: (vs ++ [v])) = _
    unfold rows at ih ⊢
    rw [List.zip_cons_cons, List.map_cons, ih, List.zip_cons_cons, List.map_cons]
    rfl
theorem rows_rel : ∀ {ns : List Int} {k : Nat} (vs : List Value), vs.length = ns.length → (∀ (j : Nat) (v : Value), vs[j]? = some v → ∃ t, v = Value.int ((k + j : Nat) : Int) t) → KV ((ns.zipIdx k).map fun q => ((.inl q.1 : Key), V.int (q.2 : Int))) (rows ns vs)
  | [], _, vs, _, _ => by
    unfold rows
    rw [List.zip_nil_left]
    exact .nil
  | n :: ns, k, [], e, _ => by cases e
  | n :: ns, k, v :: vs, e, h => by
    obtain ⟨t, ht⟩ := h 0 v rfl
    rw [List.zipIdx_cons, List.map_cons]
    have ih := rows_rel (ns := ns) (k := k + 1) vs (Nat.succ.inj e) fun j u hj => by
      obtain ⟨t, e⟩ := h (j + 1) u hj
      exact ⟨t, by rw [e]; congr 2; omega⟩
    unfold rows at ih ⊢
    rw [List.zip_cons_cons, List.map_cons]
    exact .cons ⟨rfl, t, by rw [ht]; rfl⟩ ih
end L2.Zr
namespace L2
open PySem PySem.Spec PyProof.Rows
section
variable {X : Cx}
/-- range(n) as a value -/
def rRng1 : List V → Hp → VK → Prop := fun vs H Q => ∃ n : Int, vs = [.int n] ∧ ∀ p, H p = none → Q (.ref p) (upd H p (.rng 0 n))
theorem cr_rng1 : CallR X (.type "range") rRng1 := by
  intro pins s σ H vs us Q I r h
  obtain ⟨n, rfl, q⟩ := h
  obtain ⟨u, rfl, ru⟩ := vals1 r
  obtain ⟨t, rfl⟩ := ru
  refine call_range_1 ⟨.ref s.heap.objs.size, upd H s.heap.objs.size (.rng 0 n), I.laid (t' := _) (fun b o e => Heap.get?_push_of_some _ e) (Nat.le_refl _) ?_, rfl, q _ (I.hok.fresh (Nat.le_refl _))⟩
  exact ⟨_, _, _, Heap.get?_push_size _ rfl⟩
/-- dict(zip(xs, range(n))), xs n ints -/
def rDictZipR (K : PySem.W.Frag) : List V → Hp → VK → Prop := fun zs H Q => ∃ (a b : Addr) (ns : List Int), zs = [.ref a, .ref b] ∧ SqL K H a (ns.map V.int) ∧ H b = some (.rng 0 (ns.length : Int)) ∧ 0 < ns.length ∧ ns.length ≤ 1000000 ∧
  ∀ p, H p = none → Q (.ref p) (upd H p (.dK (mergeK [] (ns.zipIdx.map fun q => ((.inl q.1 : Key), V.int (q.2 : Int))))))
def tDictZipR (K : PySem.W.Frag) (ta : TA) : TE := fun σ H Q => ta σ H fun zs H1 => rDictZipR K zs H1 Q
theorem pe_dictZipR {e e2 : Expr} {ta : TA} {p pz pz2 pos : Pos} (hc : X.calm = true) (hg : Gl X "dict") (hm : X.mg "dict" = none) (hgz : Gl X "zip") (hmz : X.mg "zip" = none) (ha : PA X [e, e2] ta) (hv : bootBuiltins "dict" = some (.type "dict") := by rfl)
    (hs : starEach [e, e2] X.env = (false, eval e X.env) :: starEach [e2] X.env := by rfl) (hpl : (backTo pz2 (starEach [e2] X.env)).any (·.1) = false := by rfl)
    (hs1 : starEach [.Call (.Name "zip" pz) [e, e2] [] pz2] X.env = (false, eval (.Call (.Name "zip" pz) [e, e2] [] pz2) X.env) :: starEach [] X.env := by rfl) :
    PE X (.Call (.Name "dict" p) [.Call (.Name "zip" pz) [e, e2] [] pz2] [] pos) (tDictZipR X.K ta) := by
  refine ⟨fun pins s σ H Q I hq => ?_⟩
  refine wpAny_Call_Name_kw (ld_blt I hg hm hv ?_)
  refine PyProof.Rows.callWith_type1 ?_ hs1 rfl
  rw [hs1]
  show wpAny _ _ (spliced ((false, eval (.Call (.Name "zip" pz) [e, e2] [] pz2) X.env) :: backTo pos (starEach [] X.env))) _ _ s
  refine Calls.spliced_cons ?_
  refine Call_ (ld_blt I hgz hmz PyProof.Rows.boot_zip (PyProof.Rows.callWith_type1 (thn (ha.run pz2 pins s σ H _ I hq) fun us s1 ⟨vs, H1, I1, r1, q1⟩ => ?_) hs hpl))
  obtain ⟨a, b, ns, ex, hqx, hqy, h0, hlen, q⟩ := q1
  subst ex
  cases r1 with
  | cons r rr =>
    cases rr with
    | cons r' rr =>
      cases rr
      cases r
      cases r'
      obtain ⟨its, rv, p1, z1⟩ := I1.list hqx
      obtain ⟨t, u, v, hr⟩ := (show ObjOk X.prog X.w H1 s1.heap b (.rng 0 (ns.length : Int)) from I1.hok b _ hqy)
      have la : a < s1.heap.objs.size := p1.lt
      have n1 := rv.length
      rw [List.length_map] at n1
      have hrs : Builtin.Range.rangeSize 0 (ns.length : Int) 1 = (ns.length : Int) := by
        rw [rangeSize_nat]
        omega
      refine Zr.call_zip_rng p1.isList hr (small_one (by omega) (by omega) (by omega) (by omega)) hrs fun h' hz hTI hTO h1 h2 hsz hk => ?_
      refine Calls.spliced_nil ?_
      have I2 : Inv X pins σ H1 { s1 with heap := h' } := I1.kept (t' := s1.toks) hk
      have D : ZipApart (s1.heap.objs.size + 4) (s1.heap.objs.size + 2) (s1.heap.objs.size + 3) s1.heap.objs.size (s1.heap.objs.size + 1) a a := PySem.W.ktu_apart s1.heap.objs.size a a la la
      have ez : its.toArray.size = ns.length := by rw [List.size_toArray]; exact n1.symm
      have ok0 : IsZip h' (s1.heap.objs.size + 4) (s1.heap.objs.size + 2) (s1.heap.objs.size + 3) .none ∧ IsPair h' (s1.heap.objs.size + 2) (.ref s1.heap.objs.size) (.ref (s1.heap.objs.size + 1)) ∧ (∃ a b, IsPair h' (s1.heap.objs.size + 3) a b) ∧ h'.IsListIter s1.heap.objs.size a 0 ∧ IsRangeIter h' (s1.heap.objs.size + 1) 0 ns.length 1 ∧ h'.IsList a its.toArray :=
        ⟨hz, hTI, ⟨_, _, hTO⟩, h1, h2, p1.isList.at fun o e => hk _ o e⟩
      have P0 := Zr.arg (prog := X.prog) (w := X.w) (s1.heap.objs.size + 4) (s1.heap.objs.size + 2) (s1.heap.objs.size + 3) s1.heap.objs.size (s1.heap.objs.size + 1) a D its.toArray ns.length ez h0
      refine PySem.call_dict_arg (s := { s1 with heap := h' }) P0 ok0 fun s₁ hs₁ hdf ok₁ => ?_
      subst hs₁
      have hzl : ns.length ≤ sizeLine := by
        rw [List.length_map] at z1
        exact z1
      refine PySem.updateFrom_arg (A := X.A.in1) (Tab := fun i h => ∃ vs : List Value, vs.length = i ∧ (∀ (j : Nat) (v : Value), vs[j]? = some v → ∃ t, v = Value.int (j : Int) t) ∧ h.DictOf (mixKind X.prog X.w) h'.objs.size (merged [] (Zr.rows ns vs))) P0 .none (I2.ok.hd hc) ok₁ hdf ⟨[], rfl, fun j v e => (by cases e), by rw [show Zr.rows ns [] = [] by unfold Zr.rows; rw [List.zip_nil_right]; rfl]; exact Heap.DictOf.new h'⟩ (fun _ _ ⟨_, _, _, tb⟩ => tb.lt_size)
        (fun i h g wr' hd _ ⟨vs, e1, e2, tb⟩ hk => ⟨vs, e1, e2, tb.at' fun o e => hk _ o hd e⟩) ?_ ?_
      · intro i key v s' Q' E' hi hrel ⟨vs, e1, e2, tb⟩ _ hQ
        obtain ⟨ek, t, rfl⟩ := hrel
        rw [List.getElem?_toArray] at ek
        obtain ⟨u, f1, f2⟩ := rv.get (i := i) (x := .int ns[i]) (by rw [List.getElem?_map, List.getElem?_eq_getElem hi]; rfl)
        rw [ek] at f1
        cases f1
        obtain ⟨t2, rfl⟩ := f2
        have hl : (merged [] (Zr.rows ns vs)).length ≤ vs.length := by
          refine Nat.le_trans (merged_length [] (Zr.rows ns vs)) ?_
          rw [List.length_nil, Nat.zero_add]
          exact Zr.rows_len ns vs
        refine wpAny_dictSet_pairs (hsz := by omega) (show (mixKind X.prog X.w).is (.inl ns[i]) (.int ns[i] t2) = true from keyIs_int _ t2) tb fun g hm' hs => ?_
        refine hQ g _ ⟨vs ++ [.int (i : Int) t], by rw [List.length_append, e1]; rfl, fun j v e => ?_, ?_⟩ hs
        · rcases Nat.lt_trichotomy j vs.length with h | h | h
          · rw [List.getElem?_append_left h] at e
            exact e2 j v e
          · subst h
            rw [List.getElem?_append_right (Nat.le_refl _), Nat.sub_self] at e
            cases e
            exact ⟨t, by rw [e1]⟩
          · rw [List.getElem?_eq_none (by rw [List.length_append, List.length_singleton]; omega)] at e
            cases e
        · rw [Zr.rows_snoc (n := ns[i]) (by rw [e1]; exact List.getElem?_eq_getElem hi)]
          unfold merged at hm' ⊢
          rw [List.foldl_append]
          exact hm'
      · rintro g tk ⟨vs, e1, e2, tb⟩ hk2
        refine ⟨rfl, ?_⟩
        have big : s1.heap.objs.size ≤ h'.objs.size := by rw [hsz]; exact Nat.le_add_right _ _
        have hm0 : (h'.objs.size == sysModules) = false := beq_eq_false_iff_ne.mpr (Nat.ne_of_gt I2.big)
        have rel := Zr.rows_rel (ns := ns) (k := 0) vs e1 (fun j v e => by obtain ⟨t, e⟩ := e2 j v e; exact ⟨t, by rw [Nat.zero_add]; exact e⟩)
        have hlen2 : (mergeK [] (ns.zipIdx.map fun q => ((.inl q.1 : Key), V.int (q.2 : Int)))).length ≤ sizeLine := by
          refine Nat.le_trans (length_mergeK _ []) ?_
          rw [List.length_nil, Nat.zero_add, List.length_map, List.length_zipIdx]
          exact hzl
        refine ⟨.ref h'.objs.size, upd H1 h'.objs.size (.dK (mergeK [] (ns.zipIdx.map fun q => ((.inl q.1 : Key), V.int (q.2 : Int))))), I1.laid (t' := tk) (fun c o e => ?_) big (show ObjOk X.prog X.w _ _ _ (.dK _) from ⟨hlen2, hm0, merged [] _, KV.merge rel .nil, tb⟩), rfl, q _ (I1.hok.fresh big)⟩
        have lc := Heap.lt_size e
        refine hk2 c o (fun m => ?_) (fun m => ?_) (Heap.get?_push_of_some _ (hk c o e))
        · rw [m, show ({ s1 with heap := h' } : Shared).heap.objs.size = s1.heap.objs.size + 5 from hsz] at lc
          exact Nat.lt_irrefl _ (Nat.lt_of_le_of_lt (Nat.le_add_right _ _) lc)
        · simp only [List.mem_cons, List.not_mem_nil, or_false] at m
          rcases m with rfl | rfl | rfl | rfl
          · exact Nat.lt_irrefl _ (Nat.lt_of_le_of_lt (Nat.le_add_right _ _) lc)
          · exact Nat.lt_irrefl _ (Nat.lt_of_le_of_lt (Nat.le_add_right _ _) lc)
          · exact Nat.lt_irrefl _ lc
          · exact Nat.lt_irrefl _ (Nat.lt_of_le_of_lt (Nat.le_add_right _ _) lc)
end
end L2

/-! tuple * 0, tuple * 1. -/
namespace L2
open PySem PySem.Spec PyProof.Rows
open AutoSeq1 (wpAny_loadPart')
theorem tuple_mul1 (l : Addr) (items : Array Value) (n : Nat) (dd : Option Addr) (sl : Array (Option Value)) (u : Tok) :
    Meets (Builtin.«tuple.__mul__» ⟨[.ref l, .int 1 u], []⟩) (fun _ R s => s.heap.get? l = some { cls := .type "tuple", dict := dd, data := .seq items n, slots := sl } ∧
      R (.ok (.ret (Value.ref l))) s) :=
  .of_wp fun prog w A R s h => by
    obtain ⟨hp, g, d, tk, os⟩ := s
    obtain ⟨hl, h⟩ := h
    have f1 := AutoSeq1.idx_int
    have c0 : (decide ((1 : Int) < -(2 ^ 63)) || decide ((1 : Int) ≥ 2 ^ 63)) = false := by decide
    have c1 : (items.isEmpty || (1 : Int) == 1) = true := by simp
    wp_walk using wpAny_loadPart' hl
    repeat (first
      | (refine wpAny_ite_false (decide_eq_false (by rw [c0]; exact Bool.false_ne_true)) ?_; wp_walk using wpAny_loadPart' hl)
      | (refine wpAny_ite_true (decide_eq_true (by rw [c1])) ?_; wp_walk using wpAny_loadPart' hl))
    exact ⟨_, rfl, h⟩
theorem tuple_mul0 (l : Addr) (items : Array Value) (n : Nat) (dd : Option Addr) (sl : Array (Option Value)) (u : Tok) (hne : items.isEmpty = false) :
    Meets (Builtin.«tuple.__mul__» ⟨[.ref l, .int 0 u], []⟩) (fun _ R s => s.heap.get? l = some { cls := .type "tuple", dict := dd, data := .seq items n, slots := sl } ∧
      R (.ok (.ret (Value.ref s.heap.objs.size))) { s with heap := s.heap.push { cls := Value.type "tuple", data := Data.seq #[] } }) :=
  .of_wp fun prog w A R s h => by
    obtain ⟨hp, g, d, tk, os⟩ := s
    obtain ⟨hl, h⟩ := h
    have f1 := AutoSeq1.idx_int
    have c0 : (decide ((0 : Int) < -(2 ^ 63)) || decide ((0 : Int) ≥ 2 ^ 63)) = false := by decide
    have c1 : (items.isEmpty || (0 : Int) == 1) = false := by rw [hne]; rfl
    have c2 : (decide ((0 : Int) ≤ 0) || items.isEmpty) = true := by simp
    wp_walk using wpAny_loadPart' hl
    repeat (first
      | (refine wpAny_ite_false (decide_eq_false (by rw [c0]; exact Bool.false_ne_true)) ?_; wp_walk using wpAny_loadPart' hl)
      | (refine wpAny_ite_false (decide_eq_false (by rw [c1]; exact Bool.false_ne_true)) ?_; wp_walk using wpAny_loadPart' hl)
      | (refine wpAny_ite_true (decide_eq_true (by rw [c2])) ?_; wp_walk using wpAny_loadPart' hl))
    exact ⟨_, rfl, h⟩
/-- t * k, k from 0 on -/
def rRepZ (K : PySem.W.Frag) : R2 := fun x y H Q => ∃ l k xs, x = .ref l ∧ y = .int k ∧ SqT K H l xs ∧ xs ≠ [] ∧ 0 ≤ k ∧ k ≤ 1000 ∧ xs.length ≤ 1000 ∧ (k = 1 → Q (.ref l) H) ∧ (k ≠ 1 → ∀ p, H p = none → Q (.ref p) (upd H p (.tup (List.replicate k.toNat xs).flatten)))
theorem op_repZ {X : Cx} : OpR X (binaryOp .Mult) (rRepZ X.K) := by
  intro pins s σ H x y v u Q I rx ry h
  obtain ⟨l, k, xs, rfl, rfl, hT, hne, h1, h2, hz, q1, q2⟩ := h
  by_cases k1 : k = 1
  · subst k1
    cases rx
    obtain ⟨t, rfl⟩ := ry
    obtain ⟨its, r, ⟨⟨cls, dd, data, sl⟩, ho, hc, n, hd⟩, hs⟩ := I.tuple hT
    simp only at hc hd
    subst hc hd
    refine wpAny_binaryOp_repeat_ref (T := "tuple") (U := "int") (by decide) ⟨_, ho, rfl⟩ (fun s' => typeIs_int s' 1 t) noFill_tuple_mul F.fills_int_mul F.slot_int_rmul repeat_tuple F.slot_int_index.lookup
      (call_meets F.slot_int_rmul (typeIs_int s 1 t) F.entry_int_rmul (F.args_int_rmul_2 _ _) (int_rmul_tuple 1 t l its.toArray n dd sl)
        ⟨ho, rfl, ⟨_, ho, rfl⟩, call_meets F.slot_tuple_mul ⟨_, ho, rfl⟩ F.entry_tuple_mul (F.args_tuple_mul_2 _ _) (tuple_mul1 l its.toArray n dd sl t) ⟨ho, ?_⟩⟩)
    exact ⟨.ref l, H, I, rfl, q1 rfl⟩
  · by_cases k0 : k = 0
    · subst k0
      cases rx
      obtain ⟨t, rfl⟩ := ry
      obtain ⟨its, r, ⟨⟨cls, dd, data, sl⟩, ho, hc, n, hd⟩, hs⟩ := I.tuple hT
      simp only at hc hd
      subst hc hd
      have hi : its.toArray.isEmpty = false := by
        cases its with
        | nil =>
          cases r
          exact absurd rfl hne
        | cons a b => rfl
      refine wpAny_binaryOp_repeat_ref (T := "tuple") (U := "int") (by decide) ⟨_, ho, rfl⟩ (fun s' => typeIs_int s' 0 t) noFill_tuple_mul F.fills_int_mul F.slot_int_rmul repeat_tuple F.slot_int_index.lookup
        (call_meets F.slot_int_rmul (typeIs_int s 0 t) F.entry_int_rmul (F.args_int_rmul_2 _ _) (int_rmul_tuple 0 t l its.toArray n dd sl)
          ⟨ho, rfl, ⟨_, ho, rfl⟩, call_meets F.slot_tuple_mul ⟨_, ho, rfl⟩ F.entry_tuple_mul (F.args_tuple_mul_2 _ _) (tuple_mul0 l its.toArray n dd sl t hi) ⟨ho, ?_⟩⟩)
      refine ⟨.ref s.heap.objs.size, _, I.laid (t' := s.toks) (o := .tup []) (fun b ob q => Heap.get?_push_of_some _ q) (Nat.le_refl _) ?_, rfl, q2 k1 _ (I.hok.fresh (Nat.le_refl _))⟩
      exact ⟨Nat.zero_le _, [], .nil, IsTup.new _ _⟩
    · exact op_repT pins s σ H _ _ v u Q I rx ry ⟨l, k, xs, rfl, rfl, hT, hne, by omega, h2, hz, q2 k1⟩
theorem tuple_mulE (l : Addr) (n : Nat) (dd : Option Addr) (sl : Array (Option Value)) (x : Int) (u : Tok) (h0 : 0 ≤ x) (h1 : x ≤ 1000) :
    Meets (Builtin.«tuple.__mul__» ⟨[.ref l, .int x u], []⟩) (fun _ R s => s.heap.get? l = some { cls := .type "tuple", dict := dd, data := .seq #[] n, slots := sl } ∧
      R (.ok (.ret (Value.ref l))) s) :=
  .of_wp fun prog w A R s h => by
    obtain ⟨hp, g, d, tk, os⟩ := s
    obtain ⟨hl, h⟩ := h
    have f1 := AutoSeq1.idx_int
    have c0 : (decide (x < -(2 ^ 63)) || decide (x ≥ 2 ^ 63)) = false := by
      rw [decide_eq_false (by omega), decide_eq_false (by omega)]
      rfl
    have c1 : ((#[] : Array Value).isEmpty || x == 1) = true := by simp
    wp_walk using wpAny_loadPart' hl
    repeat (first
      | (refine wpAny_ite_false (decide_eq_false (by rw [c0]; exact Bool.false_ne_true)) ?_; wp_walk using wpAny_loadPart' hl)
      | (refine wpAny_ite_true (decide_eq_true (by rw [c1])) ?_; wp_walk using wpAny_loadPart' hl))
    exact ⟨_, rfl, h⟩
/-- t * k, k from 0 on, t of any length -/
def rRepE (K : PySem.W.Frag) : R2 := fun x y H Q => ∃ l k xs, x = .ref l ∧ y = .int k ∧ SqT K H l xs ∧ 0 ≤ k ∧ k ≤ 1000 ∧ xs.length ≤ 1000 ∧ (xs = [] → Q (.ref l) H) ∧ (xs ≠ [] → k = 1 → Q (.ref l) H) ∧ (xs ≠ [] → k ≠ 1 → ∀ p, H p = none → Q (.ref p) (upd H p (.tup (List.replicate k.toNat xs).flatten)))
theorem op_repE {X : Cx} : OpR X (binaryOp .Mult) (rRepE X.K) := by
  intro pins s σ H x y v u Q I rx ry h
  obtain ⟨l, k, xs, rfl, rfl, hT, h1, h2, hz, q0, q1, q2⟩ := h
  by_cases hx : xs = []
  · subst hx
    cases rx
    obtain ⟨t, rfl⟩ := ry
    obtain ⟨its, r, ⟨⟨cls, dd, data, sl⟩, ho, hc, n, hd⟩, hs⟩ := I.tuple hT
    simp only at hc hd
    subst hc hd
    cases r
    refine wpAny_binaryOp_repeat_ref (T := "tuple") (U := "int") (by decide) ⟨_, ho, rfl⟩ (fun s' => typeIs_int s' k t) noFill_tuple_mul F.fills_int_mul F.slot_int_rmul repeat_tuple F.slot_int_index.lookup
      (call_meets F.slot_int_rmul (typeIs_int s k t) F.entry_int_rmul (F.args_int_rmul_2 _ _) (int_rmul_tuple k t l _ n dd sl)
        ⟨ho, rfl, ⟨_, ho, rfl⟩, call_meets F.slot_tuple_mul ⟨_, ho, rfl⟩ F.entry_tuple_mul (F.args_tuple_mul_2 _ _) (tuple_mulE l n dd sl k t h1 h2) ⟨ho, ?_⟩⟩)
    exact ⟨.ref l, H, I, rfl, q0 rfl⟩
  · exact op_repZ pins s σ H _ _ v u Q I rx ry ⟨l, k, xs, rfl, rfl, hT, hx, h1, h2, hz, q1 hx, q2 hx⟩
end L2

/-! Dicts as lists of pairs; a comprehension over a dict's keys. -/
namespace L2.Hx
open PySem PySem.Spec PyProof.Rows
section
variable {κ α : Type} [DecidableEq κ]
def kvK (ι : κ → Key) (f : α → V) (l : List (κ × α)) : List (Key × V) := l.map fun q => (ι q.1, f q.2)
def keysA (l : List (κ × α)) : List κ := l.map Prod.fst
def putA (l : List (κ × α)) (k : κ) (v : α) : List (κ × α) := if k ∈ keysA l then l.map (fun q => if q.1 = k then (q.1, v) else q) else l ++ [(k, v)]
def getA (l : List (κ × α)) (k : κ) : Option α := (l.find? fun q => decide (q.1 = k)).map Prod.snd
theorem getA_nil (k : κ) : getA ([] : List (κ × α)) k = none := rfl
theorem getA_pos {q : κ × α} {l : List (κ × α)} {k : κ} (h : q.1 = k) : getA (q :: l) k = some q.2 := by simp [getA, List.find?_cons, h]
theorem getA_neg {q : κ × α} {l : List (κ × α)} {k : κ} (h : ¬ q.1 = k) : getA (q :: l) k = getA l k := by simp [getA, List.find?_cons, h]
theorem getA_out : ∀ {l : List (κ × α)} {k : κ}, ¬ k ∈ keysA l → getA l k = none
  | [], _, _ => rfl
  | q :: l, k, h => by
    rw [getA_neg (fun e => h (by rw [← e]; exact List.mem_cons_self))]
    exact getA_out fun m => h (List.mem_cons_of_mem _ m)
theorem getA_in : ∀ {l : List (κ × α)} {k : κ}, k ∈ keysA l → ∃ v, getA l k = some v ∧ (k, v) ∈ l
  | [], _, h => absurd h List.not_mem_nil
  | q :: l, k, h => by
    by_cases e : q.1 = k
    · exact ⟨q.2, getA_pos e, by rw [← e]; exact List.mem_cons_self⟩
    · rcases List.mem_cons.mp h with h | h
      · exact absurd h.symm e
      · obtain ⟨v, a, b⟩ := getA_in h
        exact ⟨v, by rw [getA_neg e]; exact a, List.mem_cons_of_mem _ b⟩
theorem getA_mem {l : List (κ × α)} {k : κ} {v : α} (h : getA l k = some v) : (k, v) ∈ l := by
  by_cases m : k ∈ keysA l
  · obtain ⟨u, a, b⟩ := getA_in m
    rw [h] at a
    cases a
    exact b
  · rw [getA_out m] at h
    cases h
theorem mem_getA : ∀ {l : List (κ × α)} {k : κ} {v : α}, (keysA l).Nodup → (k, v) ∈ l → getA l k = some v
  | [], _, _, _, m => absurd m List.not_mem_nil
  | q :: l, k, v, nd, m => by
    have n2 := List.nodup_cons.mp nd
    rcases List.mem_cons.mp m with e | m
    · rw [← e]
      exact getA_pos rfl
    · have : ¬ q.1 = k := fun e => n2.1 (by rw [e]; exact List.mem_map.mpr ⟨_, m, rfl⟩)
      rw [getA_neg this]
      exact mem_getA n2.2 m
theorem keys_putA (l : List (κ × α)) (k : κ) (v : α) : keysA (putA l k v) = if k ∈ keysA l then keysA l else keysA l ++ [k] := by
  unfold putA
  by_cases h : k ∈ keysA l
  · rw [if_pos h, if_pos h]
    unfold keysA
    rw [List.map_map]
    refine List.map_congr_left fun q _ => ?_
    show (if q.1 = k then (q.1, v) else q).1 = q.1
    split <;> rfl
  · rw [if_neg h, if_neg h]
    unfold keysA
    rw [List.map_append]
    rfl
theorem putA_nodup {l : List (κ × α)} {k : κ} {v : α} (h : (keysA l).Nodup) : (keysA (putA l k v)).Nodup := by
  rw [keys_putA]
  split
  · exact h
  · rename_i n
    exact List.nodup_append.mpr ⟨h, by simp, fun a ha b hb e => n (by rw [List.mem_singleton.mp hb] at e; rw [← e]; exact ha)⟩
theorem putA_keys {l : List (κ × α)} {k x : κ} {v : α} : x ∈ keysA (putA l k v) ↔ x ∈ keysA l ∨ x = k := by
  rw [keys_putA]
  split
  · rename_i h
    exact ⟨.inl, fun q => q.elim id fun e => by rw [e]; exact h⟩
  · rw [List.mem_append, List.mem_singleton]
theorem putA_len (l : List (κ × α)) (k : κ) (v : α) : (putA l k v).length ≤ l.length + 1 := by
  unfold putA
  split
  · rw [List.length_map]
    omega
  · rw [List.length_append]
    exact Nat.le_refl _
theorem get_map {k x : κ} {v : α} : ∀ l : List (κ × α), getA (l.map (fun q => if q.1 = k then (q.1, v) else q)) x = if x = k then (if k ∈ keysA l then some v else none) else getA l x
  | [] => by
    show none = if x = k then (if k ∈ keysA ([] : List (κ × α)) then some v else none) else none
    rw [if_neg (show ¬ k ∈ keysA ([] : List (κ × α)) from List.not_mem_nil)]
    split <;> rfl
  | q :: l => by
    have ih := get_map (k := k) (x := x) (v := v) l
    rw [List.map_cons]
    by_cases e : q.1 = k
    · rw [if_pos e, if_pos (show k ∈ keysA (q :: l) by rw [← e]; exact List.mem_cons_self)]
      by_cases ex : x = k
      · rw [if_pos ex, getA_pos (by rw [ex]; exact e)]
      · rw [if_neg ex] at ih ⊢
        rw [getA_neg (fun z => ex (by rw [← z]; exact e)), ih, getA_neg (fun z => ex (by rw [← z]; exact e))]
    · rw [if_neg e]
      by_cases ex : x = k
      · rw [if_pos ex] at ih ⊢
        rw [getA_neg (by rw [ex]; exact e), ih]
        have : k ∈ keysA (q :: l) ↔ k ∈ keysA l := ⟨fun m => (List.mem_cons.mp m).elim (fun z => absurd z.symm e) id, List.mem_cons_of_mem _⟩
        by_cases m : k ∈ keysA l
        · rw [if_pos m, if_pos (this.mpr m)]
        · rw [if_neg m, if_neg (fun z => m (this.mp z))]
      · rw [if_neg ex] at ih ⊢
        by_cases e2 : q.1 = x
        · rw [getA_pos e2, getA_pos e2]
        · rw [getA_neg e2, getA_neg e2, ih]
theorem get_app {k x : κ} {v : α} : ∀ l : List (κ × α), ¬ k ∈ keysA l → getA (l ++ [(k, v)]) x = if x = k then some v else getA l x
  | [], _ => by
    show getA [(k, v)] x = _
    by_cases e : x = k
    · rw [if_pos e, getA_pos e.symm]
    · rw [if_neg e, getA_neg (fun z => e z.symm)]
  | q :: l, h => by
    have ih := get_app (k := k) (x := x) (v := v) l fun m => h (List.mem_cons_of_mem _ m)
    rw [List.cons_append]
    by_cases e : q.1 = x
    · rw [getA_pos e, getA_pos e, if_neg (fun z => h (by rw [← z, ← e]; exact List.mem_cons_self))]
    · rw [getA_neg e, getA_neg e, ih]
theorem get_putA {l : List (κ × α)} {k x : κ} {v : α} : getA (putA l k v) x = if x = k then some v else getA l x := by
  unfold putA
  by_cases h : k ∈ keysA l
  · rw [if_pos h, get_map, if_pos h]
  · rw [if_neg h, get_app l h]
variable {ι : κ → Key} {f : α → V}
theorem kv_get (hi : ∀ a b, ι a = ι b → a = b) (k : κ) : ∀ l : List (κ × α), valV (kvK ι f l) (ι k) = (getA l k).map f
  | [] => rfl
  | q :: l => by
    by_cases e : q.1 = k
    · rw [getA_pos e]
      exact valV_pos (p := (ι q.1, f q.2)) (by rw [e])
    · rw [getA_neg e, ← kv_get hi k l]
      exact valV_neg (p := (ι q.1, f q.2)) (fun z => e (hi _ _ z))
theorem kv_any (hi : ∀ a b, ι a = ι b → a = b) (k : κ) : ∀ l : List (κ × α), ((kvK ι f l).any fun kv => decide (kv.1 = ι k)) = decide (k ∈ keysA l)
  | [] => rfl
  | q :: l => by
    have ih := kv_any hi k l
    show (decide (ι q.1 = ι k) || (kvK ι f l).any fun kv => decide (kv.1 = ι k)) = _
    rw [ih]
    by_cases e : q.1 = k
    · rw [decide_eq_true (show ι q.1 = ι k by rw [e]), decide_eq_true (show k ∈ keysA (q :: l) by rw [← e]; exact List.mem_cons_self), Bool.true_or]
    · rw [decide_eq_false (fun z => e (hi _ _ z)), Bool.false_or]
      by_cases m : k ∈ keysA l
      · rw [decide_eq_true m, decide_eq_true (show k ∈ keysA (q :: l) from List.mem_cons_of_mem _ m)]
      · rw [decide_eq_false m]
        exact (decide_eq_false (show ¬ k ∈ keysA (q :: l) from fun z => (List.mem_cons.mp z).elim (fun y => e y.symm) m)).symm
theorem kv_put (hi : ∀ a b, ι a = ι b → a = b) (l : List (κ × α)) (k : κ) (v : α) : putK (kvK ι f l) (ι k) (f v) = kvK ι f (putA l k v) := by
  unfold putK putA
  rw [kv_any hi]
  by_cases h : k ∈ keysA l
  · rw [if_pos (decide_eq_true h), if_pos h]
    unfold kvK
    rw [List.map_map, List.map_map]
    refine List.map_congr_left fun q _ => ?_
    show (if ι q.1 = ι k then (ι q.1, f v) else (ι q.1, f q.2)) = (ι (if q.1 = k then (q.1, v) else q).1, f (if q.1 = k then (q.1, v) else q).2)
    by_cases e : q.1 = k
    · rw [if_pos (by rw [e]), if_pos e]
    · rw [if_neg (fun z => e (hi _ _ z)), if_neg e]
  · rw [if_neg (by rw [decide_eq_false h]; exact Bool.false_ne_true), if_neg h]
    unfold kvK
    rw [List.map_append]
    rfl
theorem kv_len (l : List (κ × α)) : (kvK ι f l).length = l.length := List.length_map _
end
theorem inl_inj : ∀ a b : Int, (Sum.inl a : Key) = .inl b → a = b := fun _ _ h => Sum.inl.inj h
theorem inr_inj : ∀ a b : Str, (Sum.inr a : Key) = .inr b → a = b := fun _ _ h => Sum.inr.inj h
section
variable {α : Type} {f : α → V} {H : Hp} {d : Addr}
theorem dgetIR {l : List (Int × α)} (h : Rd H d (.dK (kvK Sum.inl f l))) (k : Int) : DGet H d (.int k) ((getA l k).map f) := .inl ⟨_, .inl k, h, rfl, (kv_get inl_inj k l).symm⟩
theorem dgetSR {l : List (Str × α)} (h : Rd H d (.dK (kvK Sum.inr f l))) (k : Str) : DGet H d (.str k) ((getA l k).map f) := .inl ⟨_, .inr k, h, rfl, (kv_get inr_inj k l).symm⟩
theorem dgetI {l : List (Int × α)} (h : H d = some (.dK (kvK Sum.inl f l))) (k : Int) : DGet H d (.int k) ((getA l k).map f) := dgetIR (.of h) k
theorem dgetS {l : List (Str × α)} (h : H d = some (.dK (kvK Sum.inr f l))) (k : Str) : DGet H d (.str k) ((getA l k).map f) := dgetSR (.of h) k
theorem dputI {l : List (Int × α)} (h : H d = some (.dK (kvK Sum.inl f l))) (k : Int) (v : α) (hz : l.length < sizeLine) : DPut H d (.int k) (f v) (upd H d (.dK (kvK Sum.inl f (putA l k v)))) := by
  rw [← kv_put inl_inj]
  exact DPut.k (k := Sum.inl k) h (by rw [kv_len]; exact hz)
theorem dputS {l : List (Str × α)} (h : H d = some (.dK (kvK Sum.inr f l))) (k : Str) (v : α) (hz : l.length < sizeLine) : DPut H d (.str k) (f v) (upd H d (.dK (kvK Sum.inr f (putA l k v)))) := by
  rw [← kv_put inr_inj]
  exact DPut.k (k := Sum.inr k) h (by rw [kv_len]; exact hz)
end
/-- what is kept: all tuples but what stands at d -/
def Kp (d : Addr) (H H' : Hp) : Prop := ∀ b ys, b ≠ d → H b = some (.tup ys) → H' b = some (.tup ys)
def But (d : Addr) (H H' : Hp) : Prop := ∀ b o, b ≠ d → H b = some o → H' b = some o
theorem But.refl (d : Addr) (H : Hp) : But d H H := fun _ _ _ h => h
theorem But.trans {d : Addr} {H1 H2 H3 : Hp} (a : But d H1 H2) (b : But d H2 H3) : But d H1 H3 := fun c o n h => b c o n (a c o n h)
theorem Same.but {d : Addr} {H H' : Hp} (s : Same H H') : But d H H' := fun b o _ h => s b o h
theorem But.add {d : Addr} {H H' : Hp} (s : But d H H') {a : Addr} {o : HO} (h : H' a = none) : But d H (upd H' a o) := fun b u n q => by
  have q2 := s b u n q
  rw [upd_ne (ne_of_none q2 h)]
  exact q2
/-- [e for k in d if t]: the dict d stands still meanwhile -/
theorem lc_keysE {σ : St} {H : Hp} {Q : VK} {j slot : Nat} {d : Addr} {kvs : List (Key × V)} {tt : TT} {te : TE} (hi : σ[slot]? = some (some (.ref d))) (hd : H d = some (.dK kvs)) (out : Nat → List V → Hp → Prop)
    (mono : ∀ i xs H1 H2, Kp d H1 H2 → out i xs H1 → out i xs H2) (h0 : out 0 [] H)
    (step : ∀ od i kk v H3 xs (Ny : V → Hp → Prop) (Nn : Hp → Prop), kvs[i]? = some (kk, v) → H3 d = some (.frz od (.dK kvs)) → But d H H3 → out i xs H3 → xs.length ≤ i →
      (∀ y H6, H6 d = some (.frz od (.dK kvs)) → But d H3 H6 → out (i + 1) (xs ++ [y]) H6 → Ny y H6) → (∀ H5, H5 d = some (.frz od (.dK kvs)) → But d H3 H5 → out (i + 1) xs H5 → Nn H5) →
      tt ((σ.set j none).set j (some (kV kk))) H3 fun b H5 => if b = true then te ((σ.set j none).set j (some (kV kk))) H5 Ny else Nn H5)
    (hz : kvs.length < sizeLine)
    (fin : ∀ L xs H', Same H H' → H L = none → H' L = some (.lst xs) → out kvs.length xs H' → xs.length ≤ kvs.length → Q (.ref L) H') : ∃ (d' : Addr) (u : HO), H d' = some u ∧ Mut (some u) ∧ ∀ od, tLc (iKeys (tVar slot)) (gName j) tt te [j] σ (upd H d' (.frz od u)) fun v H' => H' d' = some (.frz od u) ∧ Q v (upd H' d' u) := by
  refine ⟨d, .dK kvs, hd, trivial, fun od => ?_⟩
  refine ⟨_, hi, d, od, rfl, .inl ⟨kvs, upd_same, fun L hL => ?_⟩⟩
  have nDL : d ≠ L := fun e => by
    rw [← e, upd_same] at hL
    cases hL
  have freeL : H L = none := by
    rw [upd_ne nDL.symm] at hL
    exact hL
  have b0 : But d H (upd H d (.frz od (.dK kvs))) := fun b o n q => by rw [upd_ne n]; exact q
  refine lc_it (walk_keys (d := d) (o := od) (kvs := kvs)) (fun i H3 => But d H H3 ∧ H3 d = some (.frz od (.dK kvs)) ∧ ∃ xs, H3 L = some (.lst xs) ∧ out i xs H3 ∧ xs.length ≤ i)
    ⟨b0.add hL, by rw [upd_ne nDL]; exact upd_same, [], upd_same, mono _ _ _ _ (fun b ys n q => ?_) h0, Nat.le_refl _⟩ (fun i H3 _ q => q.2.1) ?_ ?_
  · have q2 := b0 b _ n q
    rw [upd_ne (ne_of_none q2 hL)]
    exact q2
  · rintro i x H3 H4 hi ⟨b3, h3, xs, l3, o3, z3⟩ ⟨rfl, kk, vv, hk, rfl⟩
    refine ⟨set_none σ, ?_⟩
    have hlt := (List.getElem?_eq_some_iff.mp hk).1
    refine step od i kk vv H4 xs _ _ hk h3 b3 o3 z3 (fun y H6 h6 b6 o6 => ?_) (fun H5 h5 b5 o5 => ?_)
    · have l6 := b6 L _ nDL.symm l3
      refine ⟨xs, l6, by omega, fun b o n q => ?_, by rw [upd_ne nDL]; exact h6, xs ++ [y], upd_same, mono _ _ _ _ (fun b ys n q => ?_) o6, by rw [List.length_append, List.length_singleton]; omega⟩
      · rw [upd_ne (ne_of_none q freeL)]
        exact b6 b o n (b3 b o n q)
      · rw [upd_ne (ne_of q l6 (by intro z; cases z))]
        exact q
    · exact ⟨b3.trans b5, h5, xs, b5 L _ nDL.symm l3, o5, Nat.le_succ_of_le z3⟩
  · rintro H3 ⟨b3, h3, xs, l3, o3, z3⟩
    refine ⟨h3, fin L xs _ (fun b o q => ?_) freeL (by rw [upd_ne nDL.symm]; exact l3) (mono _ _ _ _ (fun b ys n q => by rw [upd_ne n]; exact q) o3) z3⟩
    by_cases e : b = d
    · rw [e] at q ⊢
      rw [upd_same, ← hd]
      exact q
    · rw [upd_ne e]
      exact b3 b o e q
/-- [e for k in d if t]: the dict d stands still meanwhile -/
theorem lc_keys {σ : St} {H : Hp} {Q : VK} {j slot : Nat} {d : Addr} {kvs : List (Key × V)} {tt : TT} {te : TE} (hi : σ[slot]? = some (some (.ref d))) (hd : H d = some (.dK kvs)) (out : Nat → List V → Hp → Prop)
    (mono : ∀ i xs H1 H2, Kp d H1 H2 → out i xs H1 → out i xs H2) (h0 : out 0 [] H)
    (step : ∀ od i kk v H3 xs (Ny : V → Hp → Prop) (Nn : Hp → Prop), kvs[i]? = some (kk, v) → H3 d = some (.frz od (.dK kvs)) → But d H H3 → out i xs H3 → xs.length ≤ i →
      (∀ y H6, H6 d = some (.frz od (.dK kvs)) → But d H3 H6 → out (i + 1) (xs ++ [y]) H6 → Ny y H6) → (∀ H5, H5 d = some (.frz od (.dK kvs)) → But d H3 H5 → out (i + 1) xs H5 → Nn H5) →
      tt ((σ.set j none).set j (some (kV kk))) H3 fun b H5 => if b = true then te ((σ.set j none).set j (some (kV kk))) H5 Ny else Nn H5)
    (hz : kvs.length < sizeLine)
    (fin : ∀ L xs H', Same H H' → H L = none → H' L = some (.lst xs) → out kvs.length xs H' → xs.length ≤ kvs.length → Q (.ref L) H') : tLockE (tLc (iKeys (tVar slot)) (gName j) tt te [j]) σ H Q := lc_keysE hi hd out mono h0 step hz fin
end L2.Hx

/-! list(d.values()); d == {}; a walk over a dict's pairs. -/
namespace L2
open PySem PySem.Spec PyProof.Rows
def tListVals (te : TE) : TE := fun σ H Q => te σ H fun x H1 => ∃ (d : Addr) (kvs : List (Key × V)), x = .ref d ∧ H1 d = some (.dK kvs) ∧ ∀ p, H1 p = none → Q (.ref p) (upd H1 p (.lst (kvs.map Prod.snd)))
section
variable {X : Cx} {e : Expr} {te : TE} {p apos cpos pos : Pos}
theorem kv_vals : ∀ {kvs : List (Key × V)} {vs : List (Key × Value)}, KV kvs vs → Vals (kvs.map Prod.snd) (vs.map Prod.snd)
  | [], _, .nil => .nil
  | _ :: _, _, .cons r t => .cons r.2 (kv_vals t)
/-- list(e.values()) -/
theorem pe_listVals (hc : X.calm = true) (he : PE X e te) (hg : Gl X "list") (hm : X.mg "list" = none) (hv : bootBuiltins "list" = some (.type "list")) (hbase : attributeBase e "values" X.env (eval e X.env) = eval e X.env := by rfl) (hline : (apos.endLine == cpos.line) = true := by rfl)
    (hs : starEach [.Call (.Attribute e "values" apos) [] [] cpos] X.env = (false, eval (.Call (.Attribute e "values" apos) [] [] cpos) X.env) :: starEach [] X.env := by rfl) :
    PE X (.Call (.Name "list" p) [.Call (.Attribute e "values" apos) [] [] cpos] [] pos) (tListVals te) := by
  refine ⟨fun pins s σ H Q I hq => ?_⟩
  refine wpAny_Call_Name_kw (ld_blt I hg hm hv ?_)
  refine PyProof.Rows.callWith_type1 ?_ hs rfl
  rw [hs]
  show wpAny _ _ (spliced ((false, eval (.Call (.Attribute e "values" apos) [] [] cpos) X.env) :: backTo pos (starEach [] X.env))) _ _ s
  refine Calls.spliced_cons ?_
  refine wpAny_Call_method (T := "dict") (id := "dict.values") hbase rfl hline F.plainAttrs_dict F.slot_dict_values F.type_dict_values (thn (he.run pins s σ H _ I hq) fun u s1 ⟨x, H1, I1, rx, d, kvs, ex, hd, q⟩ => ?_)
  subst ex
  obtain rfl : u = Value.ref d := rx
  obtain ⟨hz, hs0, vs, kv, hdo⟩ := I1.hok d _ hd
  obtain ⟨ep, hat⟩ := hdo.dictAt
  have lk : kvs.length = vs.length := Paired.length kv
  have I2 : Inv X pins σ H1 { s1 with heap := s1.heap.push { cls := .type "dict_values", data := .fields #[.ref d] } } := I1.kept (t' := s1.toks) fun b ob q => Heap.get?_push_of_some _ q
  refine ⟨hdo.typeIs, hdo.mapOf.noDict, ?_⟩
  show wpAny _ _ (callWith cpos (.builtin "dict.values") [.ref d] [] []) _ X.xe s1
  refine method_meetsIn F.slot_dict_values F.entry_dict_values rfl (PySem.evalArgs_none ⟨rfl, hdo.typeIs, F.args_dict_values_1 _, _, meets_dict_values (mixKind X.prog X.w) d hs0, ⟨vs, hdo⟩, ?_⟩)
  refine Calls.spliced_nil ?_
  have hlt : d < s1.heap.objs.size := by
    obtain ⟨o, _, ho, _⟩ := hat
    exact Heap.lt_size ho
  refine PySem.W.kdl_call (PySem.W.kdl_values (knd := mixKind X.prog X.w) (r := s1.heap.objs.size) (d := d) (kvs := vs) (ep := ep)) (I1.ok.hd hc) ⟨⟨_, Heap.get?_push_size _ rfl, rfl, rfl⟩, hat.push _⟩ (by omega) fun h' tk acc c' hk hD hacc => ?_
  have ev : acc.toList = vs.map Prod.snd := PySem.W.kdl_vals_eq acc.toList (by rw [Array.length_toList]; exact hacc.1) fun j v e => hacc.2 j v (by rw [← Array.getElem?_toList]; exact e)
  refine ⟨.ref _, upd H1 _ (.lst (kvs.map Prod.snd)), I2.laid (t' := tk) hk (Nat.le_refl _)
    (show ObjOk X.prog X.w _ _ _ (.lst (kvs.map Prod.snd)) from ⟨by rw [List.length_map]; exact hz, acc.toList, c', by rw [ev]; exact kv_vals kv, by rw [Array.toArray_toList]; exact hD⟩), rfl, q _ (I2.hok.fresh (Nat.le_refl _))⟩
end
namespace Hx
/-- d == {} -/
def rEqDct : R2 := fun x y H Q => ∃ a b ks, x = .ref a ∧ y = .ref b ∧ H a = some (.dK ks) ∧ H b = some (.dK []) ∧ Q (.bl ks.isEmpty) H
theorem op_eqDct {X : Cx} (hu : X.A.units < cLine) : OpR X (compareOp .Eq) rEqDct := by
  intro pins s σ H x y v u Q I rx ry h
  obtain ⟨a, b, ks, rfl, rfl, ea, eb, q⟩ := h
  obtain rfl : v = Value.ref a := rx
  obtain rfl : u = Value.ref b := ry
  obtain ⟨_, ya, va, ra, da⟩ := (show ObjOk X.prog X.w H s.heap a (.dK ks) from I.hok a _ ea)
  obtain ⟨_, yb, vb, rb, db⟩ := (show ObjOk X.prog X.w H s.heap b (.dK []) from I.hok b _ eb)
  have l1 := ra.length
  have l2 := rb.length
  refine PySem.W.keq_eq (knd := mixKind X.prog X.w) (r := true) ya yb da db hu (fun e => ?_) (fin_bl I q ?_)
  · have e0 : ks = [] := List.length_eq_zero_iff.mp (by rw [l1, e, ← l2]; rfl)
    subst e0
    exact hits_all rb ra fun p m => absurd m List.not_mem_nil
  · rw [← l1, ← l2]
    cases ks <;> rfl
/-- {k: e for x in ..} over a walk -/
theorem dc_it {J : It} {n : Nat} {G : Hp → Prop} {Y : Nat → Hp → V → Hp → Prop} (w : Walk J n G Y) {g : TG} {tt : TT} {tk tv : TE} {vs : List Nat} {σ : St} {H1 : Hp} {D : Addr} {Qd : Hp → Prop} (Pv : Nat → Hp → Prop) (h0 : Pv 0 (upd H1 D (.dK []))) (hG : ∀ i H, i ≤ n → Pv i H → G H)
    (hs : ∀ i x H H', i < n → Pv i H → Y i H x H' → g x (wipe σ vs) H' fun σ2 H2 => wipe σ2 vs = wipe σ vs ∧ tt σ2 H2 fun b H3 =>
      if b = true then tk σ2 H3 fun y H4 => tv σ2 H4 fun z H5 => ∃ kvs k, y = kV k ∧ H5 D = some (.dK kvs) ∧ kvs.length < sizeLine ∧ Pv (i + 1) (upd H5 D (.dK (putK kvs k z))) else Pv (i + 1) H3) (hd : ∀ H, Pv n H → Qd H) :
    ∃ W : Nat → Nat → Hp → Prop, (∃ m, W 0 m (upd H1 D (.dK []))) ∧ ∀ i m H, W i m H →
      (J.stop i H ∧ Qd H) ∨ (J.go i H ∧ ∃ Nx : Hp → Prop, (∀ H', Nx H' → ∃ m', m' < m ∧ W (i + 1) m' H') ∧ ∀ x H', J.yld i H x H' → g x (wipe σ vs) H' fun σ2 H2 => wipe σ2 vs = wipe σ vs ∧ tt σ2 H2 fun b H3 =>
        if b = true then tk σ2 H3 fun y H4 => tv σ2 H4 fun z H5 => ∃ kvs k, y = kV k ∧ H5 D = some (.dK kvs) ∧ kvs.length < sizeLine ∧ Nx (upd H5 D (.dK (putK kvs k z))) else Nx H3) := by
  refine ⟨fun i m H => m = n - i ∧ i ≤ n ∧ Pv i H, ⟨n, by simp, Nat.zero_le _, h0⟩, ?_⟩
  rintro i m H ⟨rfl, hi, p⟩
  have q := hG i H hi p
  by_cases hlt : i < n
  · refine .inr ⟨w.goes i H hlt q, Pv (i + 1), fun H' p' => ⟨n - (i + 1), by omega, rfl, hlt, p'⟩, fun x H' y => hs i x H H' hlt p (w.yields i H x H' hlt q y)⟩
  · have e : i = n := by omega
    subst e
    exact .inl ⟨w.stops H q, hd H p⟩
/-- [e for (k, v) in d.items() if t]: the dict d stands still meanwhile -/
theorem lc_itemsE {σ : St} {H : Hp} {Q : VK} {vs : List Nat} {g : TG} {slot : Nat} {d : Addr} {kvs : List (Key × V)} {tt : TT} {te : TE} (hi : σ[slot]? = some (some (.ref d))) (hd : H d = some (.dK kvs)) (out : Nat → List V → Hp → Prop)
    (mono : ∀ i xs H1 H2, Kp d H1 H2 → out i xs H1 → out i xs H2) (h0 : out 0 [] H)
    (step : ∀ od i kk v T H3 xs (Ny : V → Hp → Prop) (Nn : Hp → Prop), kvs[i]? = some (kk, v) → H3 d = some (.frz od (.dK kvs)) → But d H H3 → H3 T = some (.tup [kV kk, v]) → out i xs H3 → xs.length ≤ i →
      (∀ y H6, H6 d = some (.frz od (.dK kvs)) → But d H3 H6 → out (i + 1) (xs ++ [y]) H6 → Ny y H6) → (∀ H5, H5 d = some (.frz od (.dK kvs)) → But d H3 H5 → out (i + 1) xs H5 → Nn H5) →
      g (.ref T) (wipe σ vs) H3 fun σ2 H2 => wipe σ2 vs = wipe σ vs ∧ tt σ2 H2 fun b H5 => if b = true then te σ2 H5 Ny else Nn H5)
    (hz : kvs.length < sizeLine)
    (fin : ∀ L xs H', Same H H' → H L = none → H' L = some (.lst xs) → out kvs.length xs H' → xs.length ≤ kvs.length → Q (.ref L) H') : ∃ (d' : Addr) (u : HO), H d' = some u ∧ Mut (some u) ∧ ∀ od, tLc (iItems (tVar slot)) g tt te vs σ (upd H d' (.frz od u)) fun v H' => H' d' = some (.frz od u) ∧ Q v (upd H' d' u) := by
  refine ⟨d, .dK kvs, hd, trivial, fun od => ?_⟩
  refine ⟨_, hi, d, od, kvs, rfl, upd_same, fun L hL => ?_⟩
  have nDL : d ≠ L := fun e => by
    rw [← e, upd_same] at hL
    cases hL
  have freeL : H L = none := by
    rw [upd_ne nDL.symm] at hL
    exact hL
  have b0 : But d H (upd H d (.frz od (.dK kvs))) := fun b o n q => by rw [upd_ne n]; exact q
  refine lc_it (walk_items (d := d) (o := od) (kvs := kvs)) (fun i H3 => But d H H3 ∧ H3 d = some (.frz od (.dK kvs)) ∧ ∃ xs, H3 L = some (.lst xs) ∧ out i xs H3 ∧ xs.length ≤ i)
    ⟨b0.add hL, by rw [upd_ne nDL]; exact upd_same, [], upd_same, mono _ _ _ _ (fun b ys n q => ?_) h0, Nat.le_refl _⟩ (fun i H3 _ q => q.2.1) ?_ ?_
  · have q2 := b0 b _ n q
    rw [upd_ne (ne_of_none q2 hL)]
    exact q2
  · rintro i x H3 H4 hi ⟨b3, h3, xs, l3, o3, z3⟩ ⟨T, a, v, rfl, hT, rfl, e1, e2⟩
    obtain ⟨⟨kk, vv⟩, hk, rfl⟩ := Option.map_eq_some_iff.mp e1
    dsimp only at e1 e2
    rw [hk] at e2
    obtain rfl : vv = v := Option.some.inj e2
    have nT : d ≠ T := ne_of_none h3 hT
    have b4 : But d H3 (upd H3 T (.tup [kV kk, vv])) := (But.refl d H3).add hT
    refine step od i kk vv T _ xs _ _ hk (by rw [upd_ne nT]; exact h3) (b3.trans b4) upd_same (mono _ _ _ _ (fun b ys n q => b4 b _ n q) o3) z3 (fun y H6 h6 b6 o6 => ?_) (fun H5 h5 b5 o5 => ?_)
    · have l6 := b6 L _ nDL.symm (b4 L _ nDL.symm l3)
      refine ⟨xs, l6, by omega, fun b o n q => ?_, by rw [upd_ne nDL]; exact h6, xs ++ [y], upd_same, mono _ _ _ _ (fun b ys n q => ?_) o6, by rw [List.length_append, List.length_singleton]; omega⟩
      · rw [upd_ne (ne_of_none q freeL)]
        exact b6 b o n (b4 b o n (b3 b o n q))
      · rw [upd_ne (ne_of q l6 (by intro z; cases z))]
        exact q
    · exact ⟨b3.trans (b4.trans b5), h5, xs, b5 L _ nDL.symm (b4 L _ nDL.symm l3), o5, Nat.le_succ_of_le z3⟩
  · rintro H3 ⟨b3, h3, xs, l3, o3, z3⟩
    refine ⟨h3, fin L xs _ (fun b o q => ?_) freeL (by rw [upd_ne nDL.symm]; exact l3) (mono _ _ _ _ (fun b ys n q => by rw [upd_ne n]; exact q) o3) z3⟩
    by_cases e : b = d
    · rw [e] at q ⊢
      rw [upd_same, ← hd]
      exact q
    · rw [upd_ne e]
      exact b3 b o e q
end Hx
end L2

/-! {**d, k: v, ..}: a dict display that begins with all pairs of a dict. -/
namespace PySem
open Sem (wp)
section
variable {prog : Program} {w : World} {K : Type} [DecidableEq K] {knd : KeyKind prog w K} {A : Around} {E : Value → Shared → Prop} {s : Shared}
theorem wpAny_dictPut_pairs {d : Addr} {kvs : List (K × Value)} {k : K} {key v : Value} {Q : Unit → Shared → Prop} (hkey : knd.is k key = true) (hm : s.heap.DictOf knd d kvs)
    (hQ : ∀ h', h'.DictOf knd d (stored kvs k v) → Heap.SameBut d s.heap h' → Q () { s with heap := h' })
    (hsz : kvs.length ≤ sizeLine := by size_fits) :
    wpAny (model prog w) A (dictPut d (knd.hash k) key v) Q E s := by
  obtain ⟨o, es, ep, ho, hc, hd, hk, hp, hn⟩ := hm
  have hes : es.size ≤ sizeLine := by have e1 := hp.length; have e2 : es.toList.length = es.size := by simp
                                      omega
  unfold dictPut
  refine wpAny_bind (wpAny_dictFind_of hkey ho hd hk ?_)
  have hidx : (es.findIdx? fun e => knd.is k e.key) = kvs.findIdx? fun kv => decide (kv.1 = k) := by
    rw [← hp.findIdx k]; obtain ⟨l⟩ := es; simp
  cases hi : es.findIdx? fun e => knd.is k e.key with
  | some i =>
    refine wpAny_updateDict ho hd (hQ _ ⟨_, _, ep, Heap.get?_update_self _ ho (Obj.isFreed_of_dict (Obj.data_mapDict hd _)),
      hc.mapDict _, Obj.data_mapDict hd _, hk.modify _ _, ?_, ?_⟩ (Heap.SameBut.update ..))
    · rw [stored, if_pos (any_of_findIdx_some (hidx ▸ hi))]
      have hl : (es.toList.findIdx? fun e => knd.is k e.key) = some i := by rw [← hi]; obtain ⟨l⟩ := es; simp
      have := hp.modify hn hl v
      obtain ⟨l⟩ := es
      simpa using this
    · rw [stored, if_pos (any_of_findIdx_some (hidx ▸ hi)), keys_map_store]; exact hn
  | none =>
    have hnot : k ∉ kvs.map (·.1) := not_mem_of_findIdx_none (hidx ▸ hi)
    have hany : ¬ (kvs.any fun kv => decide (kv.1 = k)) = true := by
      rw [List.any_eq_true]; rintro ⟨kv, hkv, he⟩
      exact hnot (List.mem_map.mpr ⟨kv, hkv, of_decide_eq_true he⟩)
    refine wpAny_updateDictKeys (hz := hes) ho hd (hQ _ ⟨_, _, ep + 1, Heap.get?_update_self _ ho (Obj.isFreed_of_dict (Obj.data_mapDictKeys hd _)),
      hc.mapDictKeys _, Obj.data_mapDictKeys hd _, hk.push hkey _, ?_, ?_⟩ (Heap.SameBut.update ..))
    · rw [stored, if_neg hany]
      have := hp.append hkey (knd.hash k) v
      obtain ⟨l⟩ := es
      simpa using this
    · rw [stored, if_neg hany, List.map_append, List.nodup_append]
      refine ⟨hn, by simp, ?_⟩
      intro a ha b hb
      simp only [List.map_cons, List.map_nil, List.mem_singleton] at hb
      subst hb
      exact fun e => hnot (e ▸ ha)
theorem wpAny_mergeMapping {d o : Addr} {kvs more : List (K × Value)} {Q : Unit → Shared → Prop} (hdo : d ≠ o) (hoS : (o == sysModules) = false)
    (hd : s.heap.DictOf knd d kvs) (ho : s.heap.DictOf knd o more)
    (hQ : ∀ h', h'.DictOf knd d (merged kvs more) → h'.DictOf knd o more → Heap.SameBut d s.heap h' → Q () { s with heap := h' })
    (hsz : kvs.length + more.length ≤ sizeLine := by size_fits) :
    wpAny (model prog w) A (mergeMapping d (.ref o) false) Q E s := by
  obtain ⟨od, esd, epd, hod, hcd, hdd, hkd, hpd, hnd⟩ := id hd
  obtain ⟨oo, eso, epo, hoo, hco, hdo', hko, hpo, hno⟩ := id ho
  unfold mergeMapping
  refine wpAny_bind (wpAny_isInstance ho.typeIs isSubtype_dict_dict ?_)
  simp only [if_true]
  refine wpAny_bind (wpAny_specialOf ho.typeIs F.slot_dict_iter.lookup ?_)
  simp only [beq_self_eq_true, pure_bind]
  rw [if_neg (by rw [hoS]; exact Bool.false_ne_true)]
  have hlen : more.length = eso.size := by rw [← hpo.length]; simp
  simp only [Bool.false_eq_true, if_false]
  have loop : wpAny (model prog w) A (do
      let l ← dictEntries o
      let epoch ← dictEpoch o
      forIn (List.range l.size) PUnit.unit fun i (_ : PUnit) => (do
          let l' ← dictEntries o
          match l'[i]? with
            | some e => do
              holding [e.key, e.val] (dictPut d e.hash e.key e.val)
              let ep' ← dictEpoch o
              if (ep' != epoch) = true then do
                  (unsupported "dict.changed-during-merge" : Sem PUnit)
                  pure (ForInStep.yield PUnit.unit)
                else pure (ForInStep.yield PUnit.unit)
            | _ => do
              (unsupported "dict.changed-during-merge" : Sem PUnit)
              pure (ForInStep.yield PUnit.unit) : Sem (ForInStep PUnit))
      pure ()) Q E s := by
    refine wpAny_bind (wpAny_dictEntries hoo hdo' ?_)
    refine wpAny_bind (wpAny_dictEpoch hoo hdo' ?_)
    refine wpAny_bind ?_
    refine wpAny_forIn_list _
      (fun rest _ s' => ∃ h' i, s' = { s with heap := h' } ∧ rest = List.range' i (eso.size - i) ∧ i ≤ eso.size ∧ h'.DictOf knd d (merged kvs (more.take i)) ∧ h'.get? o = some oo ∧ Heap.SameBut d s.heap h')
      _ ?_ ?_ _ _ ⟨s.heap, 0, rfl, by simp [List.range_eq_range'], Nat.zero_le _, by simpa [merged] using hd, hoo, Heap.SameBut.refl _ _⟩
    · rintro x rest b s' ⟨h', i, rfl, hr, hi, hd', hoo', hs'⟩
      have hlt : i < eso.size := by
        rcases Nat.lt_or_ge i eso.size with h | h
        · exact h
        · rw [Nat.sub_eq_zero_of_le h] at hr; simp at hr
      obtain ⟨rfl, hrest⟩ : x = i ∧ rest = List.range' (i + 1) (eso.size - (i + 1)) := by
        have e : eso.size - i = (eso.size - (i + 1)) + 1 := by omega
        rw [e, List.range'_succ] at hr
        injection hr with h1 h2
        exact ⟨h1, h2⟩
      refine wpAny_bind (wpAny_dictEntries hoo' hdo' ?_)
      rw [Array.getElem?_eq_getElem hlt]
      obtain ⟨kv, hkv⟩ : ∃ kv, more[x]? = some kv := ⟨more[x]'(by rw [hlen]; exact hlt), List.getElem?_eq_getElem _⟩
      obtain ⟨k, v⟩ := kv
      obtain ⟨hkey, hval⟩ := hpo.get? (e := eso[x]) (by simp [hlt]) hkv
      obtain ⟨k', hkey', hhash⟩ := hko eso[x] (Array.getElem_mem hlt)
      obtain rfl : k' = k := knd.inj _ _ _ hkey' hkey
      show wpAny _ _ (holding [eso[x].key, eso[x].val] (dictPut d eso[x].hash eso[x].key eso[x].val) >>= _) _ _ _
      rw [hhash, hval]
      have hmx : (merged kvs (more.take x)).length ≤ sizeLine := by
        have e1 := merged_length_le kvs (more.take x)
        have e2 : (more.take x).length ≤ more.length := by rw [List.length_take]; omega
        omega
      refine wpAny_bind (wpAny_holding (wpAny_dictPut_pairs (hsz := hmx) hkey hd' fun h'' hd'' hs'' => ?_))
      have hoo'' : h''.get? o = some oo := (hs''.2 o (Ne.symm hdo)).trans hoo'
      refine wpAny_bind (wpAny_dictEpoch hoo'' hdo' ?_)
      rw [if_neg (by simp)]
      exact wpAny_pure ⟨h'', x + 1, rfl, hrest, hlt, by rw [merged_take_succ kvs more x (k', v) hkv]; exact hd'', hoo'', hs'.trans hs''⟩
    · rintro b s' ⟨h', i, rfl, hr, hi, hd', hoo', hs'⟩
      have hin : i = eso.size := by
        rcases Nat.lt_or_ge i eso.size with h | h
        · have e : eso.size - i = (eso.size - (i + 1)) + 1 := by omega
          rw [e, List.range'_succ] at hr; exact nomatch hr
        · exact Nat.le_antisymm hi h
      refine wpAny_pure (hQ h' ?_ ⟨oo, eso, epo, hoo', hco, hdo', hko, hpo, hno⟩ hs')
      rw [hin, ← hlen, List.take_length] at hd'; exact hd'
  refine wpAny_bind (wpAny_dictEntries hod hdd ?_)
  split
  · refine wpAny_bind (wpAny_dictEntries hoo hdo' ?_)
    refine wpAny_bind (wpAny_of_eq (a := PUnit.unit) ?_ loop)
    rw [← Array.forIn_toList]
    refine forIn_yield_id _ fun e he c => ?_
    obtain ⟨k, hkey, _⟩ := hko e (Array.mem_toList_iff.mp he)
    have z := knd.byValue k _ hkey
    cases q : e.key with
    | ref a => rw [q] at z; exact absurd z Bool.false_ne_true
    | _ => rfl
  · exact loop

theorem forIn_gatherM (m : Option Addr) (f : (Option (Sem Value) × Sem Value) → (Option Addr × List (Sem Value × Sem Value)) → Sem (ForInStep (Option Addr × List (Sem Value × Sem Value))))
    (hf : ∀ (p : Sem Value × Sem Value) (run : List (Sem Value × Sem Value)), run.length + 1 < 17 → f (some p.1, p.2) (m, run) = pure (.yield (m, run ++ [p]))) :
    ∀ (items run : List (Sem Value × Sem Value)), run.length + items.length < 17 → forIn (items.map fun p => (some p.1, p.2)) (m, run) f = pure (m, run ++ items)
  | [], run, _ => by simp
  | p :: rest, run, h => by
    rw [List.map_cons, List.forIn_cons, hf p run (by simp at h; omega), pure_bind]
    have := forIn_gatherM m f hf rest (run ++ [p]) (by simp at h ⊢; omega)
    simpa using this
/-- a dict display of all pairs of v, then of some written ones -/
theorem wpAny_dictDisplay_spread {v : Sem Value} {pairs : List (Sem Value × Sem Value)} {Q : Value → Shared → Prop} (h0 : pairs ≠ []) (hlen : pairs.length < 17)
    (h : wpAny (model prog w) A v (fun m s₁ => ∃ o kvs, m = .ref o ∧ s.heap.objs.size ≠ o ∧ (o == sysModules) = false ∧ s₁.heap.DictOf knd s.heap.objs.size [] ∧ s₁.heap.DictOf knd o kvs ∧ kvs.length ≤ sizeLine ∧
      ∀ h', h'.DictOf knd s.heap.objs.size (merged [] kvs) → Heap.SameBut s.heap.objs.size s₁.heap h' → wpAny (model prog w) A (subDict pairs) (fun q s₂ => ∃ kvs2 more, s.heap.objs.size ≠ q ∧ (q == sysModules) = false ∧ s₂.heap.DictOf knd s.heap.objs.size kvs2 ∧ s₂.heap.DictOf knd q more ∧ kvs2.length + more.length ≤ sizeLine ∧
        ∀ h', h'.DictOf knd s.heap.objs.size (merged kvs2 more) → Heap.SameBut s.heap.objs.size s₂.heap h' → Q (.ref s.heap.objs.size) { s₂ with heap := h' }) E { s₁ with heap := h' }) E
      { s with heap := s.heap.push { cls := .type "dict", data := .dict #[] } }) :
    wpAny (model prog w) A (dictDisplay ((none, v) :: pairs.map fun p => (some p.1, p.2))) Q E s := by
  unfold dictDisplay
  dsimp only
  rw [List.forIn_cons]
  simp only [List.isEmpty_nil, if_true, pure_bind, bind_assoc]
  refine wpAny_bind (wpAny_alloc ?_)
  refine wpAny_bind (wpAny_holding ?_)
  refine wpAny_mono h (fun m s₁ hm => ?_) fun _ _ e => e
  obtain ⟨o, kvs, rfl, hdo, hoS, hd, ho, hz, k⟩ := hm
  refine wpAny_bind (wpAny_onRaise (wpAny_tryCatch (wpAny_onRaise (wpAny_holding (wpAny_mergeMapping (hsz := by rw [List.length_nil]; omega) hdo hoS hd ho fun h' hd' ho' hs' => ?_)))))
  rw [forIn_gatherM (some s.heap.objs.size) _ (fun p run h => by
    have hne : ((run ++ [(p.1, p.2)]).length == 17) = false := by simp; omega
    simp only [hne, Bool.false_eq_true, if_false]) pairs [] (by simpa using hlen)]
  have hne : pairs.isEmpty = false := by cases pairs <;> first | rfl | exact absurd rfl h0
  simp only [List.nil_append, pure_bind, hne, Bool.false_eq_true, if_false, bind_assoc]
  refine wpAny_bind (wpAny_holding (wpAny_mono (k h' hd' hs') (fun q s₂ h₂ => ?_) fun _ _ e => e))
  obtain ⟨kvs2, more, hdq, hqS, hd2, hq2, hz2, k2⟩ := h₂
  refine wpAny_bind (wpAny_onRaise (wpAny_holding (wpAny_mergeMapping (hsz := hz2) hdq hqS hd2 hq2 fun h'' hd'' _ hs'' => ?_)))
  exact wpAny_pure (k2 h'' hd'' hs'')
end
end PySem
namespace L2.Hx
open PySem PySem.Spec PyProof.Rows
/-- {**d, k: v, ..} with keys ints and texts: the new dict p, then all of d in it, then the written pairs in a dict q of their own, then these in p -/
def tSpread (te : TE) (trs : List (TE × TE)) : TE := fun σ H Q => ∀ p, H p = none → te σ (upd H p (.dK [])) fun v H1 => ∃ (a : Addr) (kvs : List (Key × V)), v = .ref a ∧ H1 p = some (.dK []) ∧ H1 a = some (.dK kvs) ∧ p ≠ a ∧ kvs.length ≤ 1000 ∧
  ∀ q, upd H1 p (.dK kvs) q = none → tPairs trs σ (upd (upd H1 p (.dK kvs)) q (.dK [])) fun ps H3 => H3 q = some (.dK []) ∧ H3 p = some (.dK kvs) ∧ ∃ more : List (Key × V), ps = more.map (fun kv => (kV kv.1, kv.2)) ∧ more.length ≤ 15 ∧
    Q (.ref p) (upd (upd H3 q (.dK (mergeK [] more))) p (.dK (mergeK kvs (mergeK [] more))))
theorem pe_spread {X : Cx} {pos : Pos} {e : Expr} {keys : List (Option Expr)} {values : List Expr} {te : TE} {trs : List (TE × TE)} (he : PE X e te) (h : PPs X pos keys values trs) (hall : keys.all (·.isSome) = true) (hl : keys.length = values.length) (h0 : keys ≠ [])
    (h15 : keys.length ≤ 15) : PE X (.Dict (none :: keys) (e :: values) pos) (tSpread te trs) := by
  refine ⟨fun pins s σ H Q I q => ?_⟩
  have hn := I.hok.fresh (Nat.le_refl s.heap.objs.size)
  have I1 := I.laid (a := s.heap.objs.size) (o := .dK []) (h' := s.heap.push { cls := .type "dict", data := .dict #[] }) (t' := s.toks) (fun _ _ q => Heap.get?_push_of_some _ q) (Nat.le_refl _) (dk_empty s.heap I.big)
  have hpl := pairTrees_length keys values X.env pos hall hl
  have hp0 : pairTrees keys values X.env pos ≠ [] := by
    intro e
    rw [e] at hpl
    exact h0 (List.length_eq_zero_iff.mp hpl.symm)
  have shape : (evalEachOpt (none :: keys) X.env).zip ((evalEach (e :: values) X.env).map fun v => do let x ← v; standAt pos; pure x) = (none, (do let x ← eval e X.env; standAt pos; pure x)) :: (pairTrees keys values X.env pos).map fun p => (some p.1, p.2) := by
    show (none, (do let x ← eval e X.env; standAt pos; pure x)) :: (evalEachOpt keys X.env).zip ((evalEach values X.env).map fun v => do let x ← v; standAt pos; pure x) = _
    rw [zip_pairTrees keys values X.env pos hall hl]
  rw [arm_eval_Dict, shape]
  refine wpAny_bind (wpAny_standAt (wpAny_dictDisplay_spread (knd := mixKind X.prog X.w) hp0 (by omega) ?_))
  refine wpAny_bind (thn (he.run pins _ σ _ _ I1 (q _ hn)) fun u s1 ⟨x, H1, J1, rx, a, kvs, ex, hp, ha, hpa, hz, k⟩ => wpAny_bind (wpAny_standAt (wpAny_pure ?_)))
  subst ex
  obtain rfl : u = Value.ref a := rx
  obtain ⟨z, hd, vs, rel, dd⟩ := dk_of J1.hok ha
  obtain ⟨z0, hd0, vs0, r0, dd0⟩ := dk_of J1.hok hp
  cases r0
  have lvs : kvs.length = vs.length := Paired.length rel
  have hm : merged [] vs = vs := by
    obtain ⟨_, _, _, _, _, _, _, _, hno⟩ := id dd
    exact merged_nil_of_nodup vs hno
  have big : (2000 : Nat) ≤ sizeLine := by decide
  refine ⟨a, vs, rfl, hpa, hd, dd0, dd, by omega, fun h' dd' hs' => ?_⟩
  rw [hm] at dd'
  have he' : ∃ q, h'.get? s.heap.objs.size = some q := let ⟨q, _, _, hq, _⟩ := dd'; ⟨q, hq⟩
  have J2 : Inv X pins σ (upd H1 s.heap.objs.size (.dK kvs)) { s1 with heap := h', toks := s1.toks } := d_write J1 (by rw [hp]; exact True.intro) hs' he' (dk_new z hd0 rel dd')
  have hq := J2.hok.fresh (Nat.le_refl h'.objs.size)
  have J3 := J2.laid (a := h'.objs.size) (o := .dK []) (h' := h'.push { cls := .type "dict", data := .dict #[] }) (t' := s1.toks) (fun _ _ q => Heap.get?_push_of_some _ q) (Nat.le_refl _) (dk_empty h' J2.big)
  refine wpAny_subDict (knd := mixKind X.prog X.w) (by omega) (thn (h.run pins _ σ _ _ J3 (k _ hq)) fun ws s2 ⟨ps, H3, J4, rel4, e4, e5, more, ep, lk, q2⟩ => ?_)
  subst ep
  obtain ⟨rs, c, rk⟩ := carries_of (P := X.prog) (w := X.w) rel4
  obtain ⟨z4, hd4, vs4, r4, dd4⟩ := dk_of J4.hok e4
  cases r4
  refine ⟨rs, c, dd4, fun h3 dd3 hs3 => ?_⟩
  have hz3 : (mergeK [] more).length ≤ 15 := by
    have h1 := length_mergeK more []
    rw [List.length_nil] at h1
    omega
  have he3 : ∃ q, h3.get? h'.objs.size = some q := let ⟨q, _, _, hq, _⟩ := dd3; ⟨q, hq⟩
  have npq : s.heap.objs.size ≠ h'.objs.size := fun e => by
    have := hq
    rw [← e, upd_same] at this
    cases this
  have J5 : Inv X pins σ (upd H3 h'.objs.size (.dK (mergeK [] more))) { s2 with heap := h3, toks := s2.toks + ws.length } := d_write J4 (by rw [e4]; exact True.intro) hs3 he3 (dk_new (by omega) hd4 (rk.merge .nil) dd3)
  have e6 : upd H3 h'.objs.size (.dK (mergeK [] more)) s.heap.objs.size = some (.dK kvs) := by rw [upd_ne npq]; exact e5
  obtain ⟨z6, hd6, vs6, r6, dd6⟩ := dk_of J5.hok e6
  have l6 : kvs.length = vs6.length := Paired.length r6
  have l3 : (mergeK [] more).length = (merged [] rs).length := Paired.length (rk.merge .nil)
  refine ⟨vs6, merged [] rs, npq, hd4, dd6, dd3, by omega, fun h4 dd7 hs4 => ⟨.ref s.heap.objs.size, _, ?_, rfl, q2⟩⟩
  have he4 : ∃ q, h4.get? s.heap.objs.size = some q := let ⟨q, _, _, hq, _⟩ := dd7; ⟨q, hq⟩
  have hz4 : (mergeK kvs (mergeK [] more)).length ≤ sizeLine := by
    have h1 := length_mergeK (mergeK [] more) kvs
    omega
  exact d_write J5 (by rw [e6]; exact True.intro) hs4 he4 (dk_new hz4 hd0 ((rk.merge .nil).merge r6) dd7)
end L2.Hx

/-! Defs that raise, as promises; calls of them in a try; an own error class without arguments. -/
namespace L2.Hx
open PySem PySem.Spec PyProof.Rows
section
variable {P : Program} {w : World} {K : PySem.W.Frag} {mg : Str → Option Value} {base : Heap} {f : Addr} {fd : FuncData} {ps : List Str} {sp : Sp} {k : Nat}
/-- as okG, for a def that may raise -/
theorem okGX {x qual : Str} {st : Stmt} {N : List Str} (F : Fun K x qual st f fd) (S : FnScope N ps (defScope st)) (hn : ∀ vs H Q E, sp vs H Q E → vs.length = ps.length)
    (hbody : ∀ (cdv : Value) (A : Around) (outer : List Env) (s : Shared) (H : Hp) (vs : List V) (Q : VK) (E : XK), (A.deeper (envOfC qual (defScope st) s.heap.objs.size f cdv)).guards = some [] → Room k (A.deeper (envOfC qual (defScope st) s.heap.objs.size f cdv)) → sp vs H Q E →
      ∃ t, PSs (cxOf (L2.CX P w) P w K mg base N qual (defScope st) f cdv A outer s H E) (defBody st) t ∧ t { nx := fun _ H' => Q .non H', rt := Q } (start N vs) H) :
    FnG P w K mg base (L2.CX P w) (k + 1) f fd ps sp := by
  obtain ⟨oc, od, kV, doc, pm, an, cdv, ct, osl, rfl, lk, hcd⟩ := F.ex
  exact fng_of lk hcd S hn fun A outer s H vs Q E hgd hr hsp => hbody cdv A outer s H vs Q E hgd hr hsp
/-- a def that may raise, with its promise and its text -/
def DfX (P : Program) (w : World) (K : PySem.W.Frag) (mg : Str → Option Value) (base : Heap) (k : Nat) (x : Str) (st : Stmt) (ps : List Str) (sp : Sp) : Prop := ∃ (f : Addr) (fd : FuncData), FnG P w K mg base (L2.CX P w) k f fd ps sp ∧ Src K mg x st ps f fd
theorem DfX.mk' {x : Str} {st : Stmt} {N : List Str} {f : Addr} {fd : FuncData} (S : Src K mg x st ps f fd) (sc : FnScope N ps (defScope st)) (hn : ∀ vs H Q E, sp vs H Q E → vs.length = ps.length)
    (hbody : ∀ (cdv : Value) (A : Around) (outer : List Env) (s : Shared) (H : Hp) (vs : List V) (Q : VK) (E : XK), (A.deeper (envOfC x (defScope st) s.heap.objs.size f cdv)).guards = some [] → Room k (A.deeper (envOfC x (defScope st) s.heap.objs.size f cdv)) → sp vs H Q E →
      ∃ t, PSs (cxOf (L2.CX P w) P w K mg base N x (defScope st) f cdv A outer s H E) (defBody st) t ∧ t { nx := fun _ H' => Q .non H', rt := Q } (start N vs) H) : DfX P w K mg base (k + 1) x st ps sp := ⟨f, fd, okGX S.fn sc hn hbody, S⟩
/-- .. by keywords -/
theorem DfX.kw {x : Str} {st : Stmt} {ks : List Str} {g : {α : Type} → List α → List α} (D : DfX P w K mg base k x st ps sp) (h : ∀ (kV doc pm : Value) (an : Option Addr) (cdv ct : Value) (ws : List Value), ws.length = ps.length → bindArgs (PySem.W.fnOf x x (defArgs st) (defBody st) (defScope st) .none kV doc pm an cdv ct) ⟨[], ks.zip ws⟩ = pure (ps.zip (g ws))) :
    ∃ f fd, FnG P w K mg base (L2.CX P w) k f fd ps sp ∧ mg x = some (.ref f) ∧ PySem.W.keepIn K (.ref f) = true ∧ KwBinds K fd ps ks g := by
  obtain ⟨f, fd, a, S⟩ := D
  refine ⟨f, fd, a, S.at_, S.fn.kp, ?_⟩
  obtain ⟨oc, od, kV, doc, pm, an, cdv, ct, osl, rfl, lk, hcd⟩ := S.fn.ex
  exact fun s ws _ hl => .of_eq (h kV doc pm an cdv ct ws hl)
end
section
variable {X : Cx} {CX : CXT} {k j : Nat} {f : Addr} {fd : FuncData} {ps ks : List Str} {sp : Sp} {E : St → XK} {x : Str} {st : Stmt} {p pos : Pos} {e : Expr} {es : List Expr} {kws : List Keyword} {t tk : TA}
theorem run_gS {pins : List (Addr × Obj)} {σ : St} {H : Hp} {s : Shared} {Q : VK} {us : List Value} {vs : List V} (F : FnG X.prog X.w X.K X.mg X.base CX k f fd ps sp) (hgd : X.A.guards = some []) (hr : Room k X.A) (hb : Binds X.K fd ps []) (hx : PassesAt CX X σ (E σ))
    (I : Inv X pins σ H s) (r : Vals vs us) (h : sp vs H Q (E σ)) : wpAny (model X.prog X.w) X.A (call (.ref f) us) (EP X pins σ Q) X.xe s := by
  have hl : us.length = ps.length := by rw [← r.length]; exact F.ln _ _ _ _ h
  have b := hb s us I.kIn (by rw [List.append_nil]; exact hl)
  rw [List.append_nil] at b
  refine wpAny_call (codeAny_mono (F.go X.A X.stack s H ⟨us, []⟩ us vs Q (E σ) hgd hr I.env0 b r h) fun z s' hq => ?_)
  cases z with
  | error e => exact hx pins H s e s' I hq
  | ok fl =>
    cases fl with
    | ret u => exact I.after hq
    | next => exact hq.elim
    | brk => exact hq.elim
    | cont => exact hq.elim
theorem pe_dS (F : DfX X.prog X.w X.K X.mg X.base k x st ps sp) (hgd : X.A.guards = some []) (hr : Room j X.A) (hx : ∀ σ, PassesAt (L2.CX X.prog X.w) X σ (E σ)) (ha : PA X (e :: es) t) (hj : k ≤ j := by first | exact Nat.le_refl _ | decide) (hg : Gl X x := by rfl)
    (hdb : (x == ("__debug__" : Str)) = false := by decide) (he : starEach (e :: es) X.env = (false, eval e X.env) :: starEach es X.env := by rfl) (hpl : (backTo pos (starEach es X.env)).any (·.1) = false := by rfl) :
    PE X (.Call (.Name x p) (e :: es) [] pos) (tCallS sp E t) := by
  obtain ⟨f, fd, a, S⟩ := F
  exact ⟨fun pins s σ H Q I h => wpAny_Call_Name_kw (ld_glob I hg S.at_ (PySem.W.callWith_K (h₀ := X.base) I.ok.mod.kin S.fn.kp (thn (ha.run pos pins s σ H _ I h) fun us s1 ⟨vs, H1, I1, r, q⟩ => ⟨I1.kIn, run_gS a hgd (hr.mono hj) S.bd (hx σ) I1 r q⟩) he hpl) hdb)⟩
def tKwS (sp : Sp) (g : {α : Type} → List α → List α) (n : Nat) (E : St → XK) (tk : TA) : TE := fun σ H Q => tk σ H fun zs H2 => zs.length = n ∧ sp (g zs) H2 Q (E σ)
theorem pe_kwS {g : {α : Type} → List α → List α} (F : ∃ f fd, FnG X.prog X.w X.K X.mg X.base (L2.CX X.prog X.w) k f fd ps sp ∧ X.mg x = some (.ref f) ∧ PySem.W.keepIn X.K (.ref f) = true ∧ KwBinds X.K fd ps ks g) (hgd : X.A.guards = some []) (hr : Room j X.A) (hx : ∀ σ, PassesAt (L2.CX X.prog X.w) X σ (E σ)) (hkw : PK X kws tk)
    (hrel : ∀ {zs : List V} {ws : List Value}, Vals zs ws → Vals (g zs) (g ws)) (hj : k ≤ j := by first | exact Nat.le_refl _ | decide)
    (hg : Gl X x := by rfl) (hall : (backToKw pos (keywordEach kws X.env)).all (·.1.isSome) = true := by rfl) (hks : (backToKw pos (keywordEach kws X.env)).filterMap (·.1) = ks := by rfl) (hdb : (x == ("__debug__" : Str)) = false := by decide)
    (hpl : ((backTo pos (starEach [] X.env)).any (·.1) || (backToKw pos (keywordEach kws X.env)).any (·.1.isNone)) = false := by rfl) :
    PE X (.Call (.Name x p) [] kws pos) (tKwS sp g ps.length E tk) := by
  obtain ⟨f, fd, F, hm, hk, hb⟩ := F
  refine ⟨fun pins s σ H Q I h => wpAny_Call_Name_kw (ld_glob I hg hm ?_ hdb)⟩
  refine PySem.W.callWith_KW0 (h₀ := X.base) I.ok.mod.kin hk hall ?_ hpl
  refine thn (hkw.run pos pins s σ H _ I h) fun ws s2 ⟨zs, H2, I2, rz, hz, q2⟩ => ⟨I2.kIn, ?_⟩
  rw [hks]
  have rg := hrel rz
  refine wpAny_call (codeAny_mono (F.go X.A X.stack s2 H2 ⟨[], ks.zip ws⟩ (g ws) (g zs) Q (E σ) hgd (hr.mono hj) I2.env0 (hb s2 ws I2.kIn (rz.length.symm.trans hz)) rg q2) fun z s3 hq => ?_)
  cases z with
  | error er => exact hx σ pins H2 s2 er s3 I2 hq
  | ok fl =>
    cases fl with
    | ret u => exact I2.after hq
    | next => exact hq.elim
    | brk => exact hq.elim
    | cont => exact hq.elim
end
/-- C(), C an own exception class without own __init__ -/
theorem pmk_own0 {X : Cx} {C : Addr} {bmB : List Value} {B newId initId : String} {x : Str} {p pos : Pos} (F : ExcBaseFacts B newId initId bmB) (q : PySem.W.excIn X.K C bmB newId = true) (gC : X.mg x = some (.ref C)) (kC : PySem.W.keepIn X.K (.ref C) = true) (r : Raises X (.ref C)) (hg : Gl X x := by rfl)
    (hdb : (x == ("__debug__" : Str)) = false := by decide) : PMk X (.Call (.Name x p) [] [] pos) (fun _ H Q => Q (.ref C) none H) := by
  intro pins s σ H Q I h
  refine wpAny_Call_Name_kw (ld_glob I hg gC ?_ hdb)
  refine PySem.W.callWith_K0 I.kIn kC ?_
  show wpAny _ _ (call (.ref C) []) _ _ _
  obtain ⟨bm, N, nm, qn, bs, hdct, sn, sub, ab, col, dd, k0, k1, k2, k3, k5, mN, hC, hN, hni, T⟩ := exc_obj I.kIn q
  refine wpAny_call_exc_subT F T hC hN hni (fun h' e hm => ?_) (by show 0 ≤ sizeLine; exact Nat.zero_le _)
  exact mk_of I hm r h (I.hok.gone hm.new)
/-- what the top has of an own error class over ValueError, told of a frag -/
structure OwnExc (K : PySem.W.Frag) (mg : Str → Option Value) (x : Str) (C : Addr) : Prop where
  at_ : mg x = some (.ref C)
  exc : PySem.W.excIn K C [.type "ValueError", .type "Exception", .type "BaseException", .type "object"] "ValueError.__new__" = true
  kp : PySem.W.keepIn K (.ref C) = true
  bs : PySem.W.subIn K (.ref C) (.type "BaseException") = some true
  ty : PySem.W.typeIn K (.ref C) = some (.type "type")
  hd : PySem.W.hasDictIn K C = true
  self : PySem.W.subIn K (.ref C) (.ref C) = some true
  is_ : ExcC K C
theorem OwnExc.exm {K : PySem.W.Frag} {mg : Str → Option Value} {x : Str} {C : Addr} (T : OwnExc K mg x C) : PySem.W.exmOne K (.ref C) (.ref C) = some true := PySem.W.exm_ref T.bs T.hd T.ty T.self
/-- raise C() -/
theorem ps_raise0 {X : Cx} {W : WX} {C : Addr} {x : Str} {p pos pos2 : Pos} (hc : X.calm = true) (tk : Takes X W) (T : OwnExc X.K X.mg x C) (hg : Gl X x := by rfl) (hdb : (x == ("__debug__" : Str)) = false := by decide) :
    PS X (.Raise (some (.Call (.Name x p) [] [] pos)) none pos2) (fun _ σ H => W (.ref C) none σ H) := ps_raise hc tk (pmk_own0 PySem.F.excBase_ValueError T.exc T.at_ T.kp (raises_own T.bs T.ty) hg hdb)
end L2.Hx

/-! sorted of a tuple: of texts, of rows of ints; a list against []. -/
namespace L2.Zt
open PySem PySem.Spec PySem.W PyProof.Rows PySem.Calls
section
variable {prog : Program} {w : World} {A : Around} {E : Value → Shared → Prop} {s : Shared}
theorem collect_tup {l : Addr} {vs : List Value} {Q : List Value → Shared → Prop} (hl : s.heap.IsTuple l vs.toArray)
    (h : Q vs { s with heap := (s.heap.push (seqObj "list" #[] 0)).update s.heap.objs.size (Obj.mapSeq (· ++ vs.toArray)) }) (hsz : vs.length ≤ sizeLine) :
    wpAny (model prog w) A (collect (.ref l)) Q E s := by
  obtain ⟨o, ho, hc, n, hd⟩ := id hl
  unfold collect
  refine wpAny_bind (wpAny_runValue (codeAny_builtin entry_proto_collect' ?_))
  show wpAny _ _ (do again (.builtin "list.__iadd__" ⟨[← newList [], .ref l], []⟩)) _ _ s
  refine wpAny_bind (wpAny_newList (wpAny_pure ⟨Code.quiet_builtin _ (by decide +kernel), codeAny_builtin entry_list_iadd' ?_⟩))
  show wpAny _ _ (Builtin.List.listExtendWith (.ref s.heap.objs.size) (.ref l) (.ref s.heap.objs.size)) _ _ { s with heap := s.heap.push (seqObj "list" #[] 0) }
  unfold Builtin.List.listExtendWith
  have ho' : (s.heap.push (seqObj "list" #[] 0)).get? l = some o := Heap.get?_push_of_some _ ho
  refine wpAny_bind (wpAny_typeOf (T := "tuple") ⟨o, ho', hc⟩ ?_)
  have ht : (Value.type "tuple" == Value.type "tuple") = true := by rfl
  rw [if_pos (by rw [ht]; simp)]
  refine wpAny_bind (listItems_at ho' hd ?_)
  refine wpAny_bind (listItems_at (xs := #[]) (n := 0) (Heap.get?_push_size _ rfl) rfl ?_)
  rw [if_neg (by simp)]
  refine wpAny_bind (listUpdate_at (xs := #[]) (n := 0) (Heap.get?_push_size _ rfl) rfl ?_ (Nat.zero_le _) (by show (#[] ++ vs.toArray).size ≤ sizeLine + 1; simp only [Array.size_append, List.size_toArray, List.length_nil]; omega))
  refine wpAny_pure ?_
  show wpAny (model prog w) A (do
      let o ← load s.heap.objs.size
      match o.data with
      | .seq xs _ => pure xs.toList
      | _ => unsupported "internal:collect") Q E { s with heap := (s.heap.push (seqObj "list" #[] 0)).update s.heap.objs.size (Obj.mapSeq (· ++ vs.toArray)) }
  refine wpAny_bind (wpAny_load (get?_update_seq (Heap.get?_push_size _ rfl) _) ?_)
  show wpAny _ _ (pure ((#[] : Array Value) ++ vs.toArray).toList) Q E _
  rw [show ((#[] : Array Value) ++ vs.toArray).toList = vs by simp]
  exact wpAny_pure h
theorem sorted_of_sortT {l : Addr} {vs : List Value} {kw : List (Str × Value)} {Q : Value → Shared → Prop} (hl : s.heap.IsTuple l vs.toArray) (hL : vs.length ≤ sizeLine) (ha1 : argsOk "sorted" ⟨[.ref l], kw⟩) (ha2 : ∀ x, argsOk "list.sort" ⟨[.ref x], kw⟩)
    (body : ∀ E' : Value → Shared → Prop, wpAny (model prog w) A.in1.in1 (Builtin.«list.sort» ⟨[.ref (s.heap.objs.size + 1)], kw⟩) (fun f s' => f = .done (.ret .none) ∧ Q (.ref (s.heap.objs.size + 1)) s') E' { s with heap := copyHeap s.heap vs }) :
    wpAny (model prog w) A (call (.builtin "sorted") [.ref l] kw) Q E s := by
  refine call_function_entry_kw kind_sorted plain_sorted entry_sorted ha1 ?_
  unfold Builtin.«sorted»
  refine wpAny_bind (m := checkCount "sorted" 1 1 _) (wpAny_pure ?_)
  refine wpAny_bind (collect_tup hl ?_ hL)
  refine wpAny_bind (wpAny_newList ?_ hL)
  have hsz : ((s.heap.push (seqObj "list" #[] 0)).update s.heap.objs.size (Obj.mapSeq (· ++ vs.toArray))).objs.size = s.heap.objs.size + 1 := by
    rw [Heap.size_update, size_push']
  show wpAny _ _ _ _ _ { s with heap := copyHeap s.heap vs }
  rw [hsz]
  refine wpAny_bind (wpAny_holding (wpAny_call_entry_kw slot_list_sort ⟨_, copyHeap_at s.heap vs, rfl⟩ entry_list_sort ?body (ha2 _)))
  case body =>
    show wpAny (model prog w) A.in1.in1 (Builtin.«list.sort» ⟨[.ref (s.heap.objs.size + 1)], kw⟩) _ _ _
    refine wpAny_mono (body _) (fun f s' hf => ?_) fun _ _ e => e
    obtain ⟨rfl, hq⟩ := hf
    exact ⟨_, rfl, wpAny_pure ⟨_, rfl, hq⟩⟩
theorem sorted_valsT {l : Addr} {κ : KeyKind} {vs : List Value} {Q : Value → Shared → Prop} (hl : s.heap.IsTuple l vs.toArray) (S : SortsAt prog w A.in1.in1 { s with heap := sortingHeap (copyHeap s.heap vs) (s.heap.objs.size + 1) vs } κ vs) (hL : vs.length ≤ sizeLine)
    (h : Q (.ref (s.heap.objs.size + 1)) { s with heap := sortedAll s.heap vs (sortVals κ false vs vs).toArray }) : wpAny (model prog w) A (call (.builtin "sorted") [.ref l]) Q E s :=
  sorted_of_sortT hl hL (args_sorted1 _) (fun _ => args_list_sort _) fun _ => list_sort_vals (s := { s with heap := copyHeap s.heap vs }) (copyHeap_at s.heap vs) S hL ⟨rfl, h⟩
end
end L2.Zt
namespace L2
open PySem PySem.Spec PyProof.Rows
section
variable {X : Cx}
/-- sorted(xs), xs a tuple of tuples that compare; R is what is known of them -/
def rSortedTW (K : PySem.W.Frag) : List V → Hp → VK → Prop := fun vs H Q => ∃ (a : Addr) (xs : List V) (β : Type) (bs : List β) (enc : β → PyData) (R : V → β → Prop), vs = [V.ref a] ∧ SqT K H a xs ∧ (∀ x ∈ xs, ∃ t, x = V.ref t) ∧
  Paired R xs bs ∧ Paired (fun x b => Dp K H x (enc b)) xs bs ∧ (∀ b b', PySem.W.alike (enc b) (enc b') = true) ∧ (∀ b, ∃ x r, enc b = .tuple (x :: r)) ∧ (∀ b, b ∈ bs → (enc b).depth ≤ 60) ∧
  ∀ ys p, ys.Perm xs → Paired R ys (bs.mergeSort (PySem.W.dataLe false enc)) → H p = none → Q (.ref p) (upd H p (.lst ys))
theorem cr_sortedTW (hu : X.A.units + 64 < cLine) : CallR X (.builtin "sorted") (rSortedTW X.K) := by
  intro pins s σ H vs us Q I r h
  obtain ⟨a, xs, β, bs, enc, R, rfl, hs, hx, hR, hD, al, tp, dp, q⟩ := h
  obtain ⟨its, rv, hl, hz⟩ := I.tuple hs
  obtain ⟨u, rfl, ru⟩ := vals1 r
  obtain rfl : u = Value.ref a := ru
  obtain ⟨e1, e2⟩ := refs_back rv hx
  have er : PySem.W.EachIs (fun v b => ∃ as, Reads s.heap v (enc b) as) its bs := by
    refine each_of_paired ?_
    rw [e1] at hD
    exact paired_reads I (paired_val hD) e2
  have eR : PySem.W.EachIs (fun v b => R (backV v) b) its bs := by
    rw [e1] at hR
    exact each_of_paired (paired_val hR)
  have er' : PySem.W.EachIs (fun v b => ∃ as, Reads (PySem.W.sortingHeap (PySem.W.copyHeap s.heap its) (s.heap.objs.size + 1) its) v (enc b) as) its bs := er.mono fun _ _ ⟨as, r⟩ => ⟨as, PyProof.Rows.Reads.keeps (fun _ _ => PySem.W.sorting_copy_old) r⟩
  have hal := PySem.W.AllAlike.of (bs := bs) al
  have dm : ∀ d, d ∈ bs.map enc → d.depth ≤ 60 := fun d m => by
    obtain ⟨b, mb, rfl⟩ := List.mem_map.mp m
    exact dp b mb
  refine Zt.sorted_valsT hl (PySem.W.SortsAt.data (s := { s with heap := PySem.W.sortingHeap (PySem.W.copyHeap s.heap its) (s.heap.objs.size + 1) its }) (PySem.W.each_map (R := fun v d => ∃ as, Reads (PySem.W.sortingHeap (PySem.W.copyHeap s.heap its) (s.heap.objs.size + 1) its) v d as) enc er') hal (PySem.W.Sortable.tuples tp) (fun d m => ?_)) (by rw [← rv.length]; exact hz) ?_
  · have := dm d m
    show X.A.units + 1 + 1 + d.depth < cLine
    omega
  · have hp : (PySem.W.sortVals (PySem.W.dataKind (PySem.W.sortingHeap (PySem.W.copyHeap s.heap its) (s.heap.objs.size + 1) its) (bs.map enc)) false its its).Perm its := sortVals_perm
    have hb := paired_back (paired_of_each (PySem.W.sortVals_data (h' := PySem.W.sortingHeap (PySem.W.copyHeap s.heap its) (s.heap.objs.size + 1) its) false eR er' hal))
    generalize PySem.W.sortVals (PySem.W.dataKind (PySem.W.sortingHeap (PySem.W.copyHeap s.heap its) (s.heap.objs.size + 1) its) (bs.map enc)) false its its = out at hp hb ⊢
    have h3 : ∀ u ∈ out, ∃ a, u = Value.ref a := fun u hu => e2 u (hp.mem_iff.mp hu)
    obtain ⟨n, hn⟩ := sortedAll_at s.heap its out.toArray
    refine ⟨.ref (s.heap.objs.size + 1), upd H (s.heap.objs.size + 1) (.lst (out.map backV)), I.laid (t' := s.toks) (fun b o e => sortedAll_old e) (Nat.le_succ _) ⟨?_, out, n, vals_back h3, hn⟩, rfl, q _ _ ?_ hb (I.hok.fresh (Nat.le_succ _))⟩
    · rw [List.length_map, hp.length_eq, ← rv.length]; exact hz
    · rw [e1]; exact hp.map backV

/-- sorted(xs), xs texts -/
def rSortedTS (K : PySem.W.Frag) : List V → Hp → VK → Prop := fun vs H Q => ∃ (a : Addr) (xs : List Str), vs = [V.ref a] ∧ (SqL K H a (xs.map V.str) ∨ SqT K H a (xs.map V.str)) ∧ ∀ p, H p = none → Q (.ref p) (upd H p (.lst ((xs.mergeSort (PySem.W.dataLe false PyData.str)).map V.str)))
theorem strs_each : ∀ {xs : List Str} {its : List Value}, Vals (xs.map V.str) its → PySem.W.EachIs (fun v b => ∃ t, v = Value.str b t) its xs
  | [], _, .nil => .nil
  | _ :: _, _, .cons r t => .cons r (strs_each t)
theorem each_strs : ∀ {xs : List Str} {its : List Value}, PySem.W.EachIs (fun v b => ∃ t, v = Value.str b t) its xs → Vals (xs.map V.str) its
  | _, _, .nil => .nil
  | _, _, .cons r t => .cons r (each_strs t)
theorem cr_sortedTS (hu : X.A.units + 64 < cLine) : CallR X (.builtin "sorted") (rSortedTS X.K) := by
  intro pins s σ H vs us Q I r h
  obtain ⟨a, xs, rfl, hs, q⟩ := h
  obtain ⟨u, rfl, ru⟩ := vals1 r
  obtain rfl : u = Value.ref a := ru
  have main : ∀ (its : List Value), Vals (xs.map V.str) its → its.length ≤ sizeLine → (s.heap.IsList a its.toArray ∨ s.heap.IsTuple a its.toArray) → wpAny (model X.prog X.w) X.A (call (.builtin "sorted") [.ref a]) (EP X pins σ Q) X.xe s := by
    intro its rv hz hl
    have eR := strs_each rv
    have er : ∀ h : Heap, PySem.W.EachIs (fun v b => ∃ as, Reads h v (PyData.str b) as) its xs := fun h => eR.mono fun v b ⟨t, e⟩ => by
      rw [e]
      exact ⟨_, .str b t⟩
    have hal : PySem.W.AllAlike (xs.map PyData.str) := PySem.W.AllAlike.of (bs := xs) (fun b b' => by simp [PySem.W.alike])
    have hk : PySem.W.Sortable (xs.map PyData.str) := PySem.W.Sortable.others (fun b => ⟨(fun z => nomatch z), fun _ z => nomatch z⟩)
    have S := PySem.W.SortsAt.data (prog := X.prog) (w := X.w) (A := X.A.in1.in1) (s := { s with heap := PySem.W.sortingHeap (PySem.W.copyHeap s.heap its) (s.heap.objs.size + 1) its }) (PySem.W.each_map (R := fun v d => ∃ as, Reads (PySem.W.sortingHeap (PySem.W.copyHeap s.heap its) (s.heap.objs.size + 1) its) v d as) PyData.str (er _)) hal hk (fun d m => by
      obtain ⟨b, mb, rfl⟩ := List.mem_map.mp m
      show X.A.units + 1 + 1 + (PyData.str b).depth < cLine
      simp only [PyData.depth]
      omega)
    have fin : EP X pins σ Q (.ref (s.heap.objs.size + 1)) { s with heap := sortedAll s.heap its (PySem.W.sortVals (PySem.W.dataKind (PySem.W.sortingHeap (PySem.W.copyHeap s.heap its) (s.heap.objs.size + 1) its) (xs.map PyData.str)) false its its).toArray } := by
      have hp : (PySem.W.sortVals (PySem.W.dataKind (PySem.W.sortingHeap (PySem.W.copyHeap s.heap its) (s.heap.objs.size + 1) its) (xs.map PyData.str)) false its its).Perm its := sortVals_perm
      have hb := each_strs (PySem.W.sortVals_data (h' := PySem.W.sortingHeap (PySem.W.copyHeap s.heap its) (s.heap.objs.size + 1) its) false eR (er _) hal)
      generalize PySem.W.sortVals (PySem.W.dataKind (PySem.W.sortingHeap (PySem.W.copyHeap s.heap its) (s.heap.objs.size + 1) its) (xs.map PyData.str)) false its its = out at hp hb ⊢
      obtain ⟨n, hn⟩ := sortedAll_at s.heap its out.toArray
      refine ⟨.ref (s.heap.objs.size + 1), upd H (s.heap.objs.size + 1) (.lst _), I.laid (t' := s.toks) (fun b o e => sortedAll_old e) (Nat.le_succ _) ⟨?_, out, n, hb, hn⟩, rfl, q _ (I.hok.fresh (Nat.le_succ _))⟩
      rw [hb.length, hp.length_eq]
      exact hz
    rcases hl with hl | hl
    · exact PySem.W.sorted_vals hl S hz fin
    · exact Zt.sorted_valsT hl S hz fin
  rcases hs with hs | hs
  · obtain ⟨its, rv, hl, hz⟩ := I.list hs
    exact main its rv (by rw [← rv.length]; exact hz) (.inl hl.isList)
  · obtain ⟨its, rv, hl, hz⟩ := I.tuple hs
    exact main its rv (by rw [← rv.length]; exact hz) (.inr hl)
/-- xs == [], xs != [] -/
def rEqNilL (K : PySem.W.Frag) : R2 := fun x y H Q => ∃ a b xs, x = .ref a ∧ y = .ref b ∧ SqL K H a xs ∧ SqL K H b [] ∧ Q (.bl xs.isEmpty) H
def rNeNilL (K : PySem.W.Frag) : R2 := fun x y H Q => ∃ a b xs, x = .ref a ∧ y = .ref b ∧ SqL K H a xs ∧ SqL K H b [] ∧ Q (.bl (!xs.isEmpty)) H
theorem op_eqNilL (hu : X.A.units + 64 < cLine) : OpR X (compareOp .Eq) (rEqNilL X.K) := by
  intro pins s σ H x y v u Q I rx ry h
  obtain ⟨a, b, xs, rfl, rfl, ha, hb, q⟩ := h
  cases rx
  cases ry
  obtain ⟨its, r1, p1, _⟩ := I.list ha
  obtain ⟨its2, r2, p2, _⟩ := I.list hb
  cases r2
  cases r1 with
  | nil => exact SeqAt.RcAt.lists (e := fun _ => true) p1.isList p2.isList rfl (by omega) (fun j h1 h2 => absurd h2 (by simp)) _ _ _ _ ⟨.bl _, H, I, rfl, q⟩
  | cons r t => exact SeqAt.RcAt.lists_lengths p1.isList p2.isList (by simp) (by omega) _ _ _ _ ⟨.bl _, H, I, rfl, q⟩
theorem op_neNilL (hu : X.A.units + 64 < cLine) : OpR X (compareOp .NotEq) (rNeNilL X.K) := by
  intro pins s σ H x y v u Q I rx ry h
  obtain ⟨a, b, xs, rfl, rfl, ha, hb, q⟩ := h
  cases rx
  cases ry
  obtain ⟨its, r1, p1, _⟩ := I.list ha
  obtain ⟨its2, r2, p2, _⟩ := I.list hb
  cases r2
  cases r1 with
  | nil => exact SeqAt.RcNeAt.lists (e := fun _ => true) p1.isList p2.isList rfl (by omega) (fun j h1 h2 => absurd h2 (by simp)) _ _ _ _ ⟨.bl _, H, I, rfl, q⟩
  | cons r t => exact SeqAt.RcNeAt.lists_lengths p1.isList p2.isList (by simp) (by omega) _ _ _ _ ⟨.bl _, H, I, rfl, q⟩
end
end L2

/-! Names and ways: its defs by their places. -/
namespace L2.Hx
open PySem PySem.Spec PyProof.Rows
abbrev pw : Program := PySem.Challenge.pw_heldapart_k22_whole_names_and_ways
def top (i : Nat) : Stmt := pw.main.body.getD i (.Pass ⟨0, 0, 0, 0⟩)
abbrev s_inner_of : Stmt := top 4
theorem sc_inner_of : FnScope ["statement"] ["statement"] (defScope s_inner_of) := ⟨rfl, rfl, rfl, by decide +kernel, rfl, by decide +kernel, by decide +kernel⟩
abbrev s_walked : Stmt := top 5
theorem sc_walked : FnScope ["statements", "above", "rows", "place", "statement", "way", "side", "inner"] ["statements", "above"] (defScope s_walked) := ⟨rfl, rfl, rfl, by decide +kernel, rfl, by decide +kernel, by decide +kernel⟩
abbrev s_names_of : Stmt := top 6
theorem sc_names_of : FnScope ["function"] ["function"] (defScope s_names_of) := ⟨rfl, rfl, rfl, by decide +kernel, rfl, by decide +kernel, by decide +kernel⟩
abbrev s_ways_of : Stmt := top 7
theorem sc_ways_of : FnScope ["function", "way", "_"] ["function"] (defScope s_ways_of) := ⟨rfl, rfl, rfl, by decide +kernel, rfl, by decide +kernel, by decide +kernel⟩
abbrev s_statement_at : Stmt := top 8
theorem sc_statement_at : FnScope ["function", "way", "known", "statement"] ["function", "way"] (defScope s_statement_at) := ⟨rfl, rfl, rfl, by decide +kernel, rfl, by decide +kernel, by decide +kernel⟩
abbrev s_l_stock : Stmt := top 10
theorem sc_l_stock : FnScope ["script", "flat", "cell"] ["script"] (defScope s_l_stock) := ⟨rfl, rfl, rfl, by decide +kernel, rfl, by decide +kernel, by decide +kernel⟩
abbrev s_l_draw : Stmt := top 11
theorem sc_l_draw : FnScope ["stock", "size", "great", "turn", "cell", "blend"] ["stock", "size"] (defScope s_l_draw) := ⟨rfl, rfl, rfl, by decide +kernel, rfl, by decide +kernel, by decide +kernel⟩
abbrev s_l_pick : Stmt := top 12
theorem sc_l_pick : FnScope ["stock", "row"] ["stock", "row"] (defScope s_l_pick) := ⟨rfl, rfl, rfl, by decide +kernel, rfl, by decide +kernel, by decide +kernel⟩
abbrev s_l_shuffled : Stmt := top 13
theorem sc_l_shuffled : FnScope ["stock", "row", "rest", "made", "turn"] ["stock", "row"] (defScope s_l_shuffled) := ⟨rfl, rfl, rfl, by decide +kernel, rfl, by decide +kernel, by decide +kernel⟩
abbrev s_l_clause : Stmt := top 14
theorem sc_l_clause : FnScope ["stock", "names", "many", "terms", "looks", "parts", "turn"] ["stock", "names", "many"] (defScope s_l_clause) := ⟨rfl, rfl, rfl, by decide +kernel, rfl, by decide +kernel, by decide +kernel⟩
abbrev s_l_saying : Stmt := top 15
theorem sc_l_saying : FnScope ["stock", "names", "many", "turn"] ["stock", "names", "many"] (defScope s_l_saying) := ⟨rfl, rfl, rfl, by decide +kernel, rfl, by decide +kernel, by decide +kernel⟩
abbrev s_l_shape : Stmt := top 16
theorem sc_l_shape : FnScope ["stock", "most", "names", "first", "second"] ["stock", "most"] (defScope s_l_shape) := ⟨rfl, rfl, rfl, by decide +kernel, rfl, by decide +kernel, by decide +kernel⟩
abbrev s_l_values : Stmt := top 17
theorem sc_l_values : FnScope ["shape"] ["shape"] (defScope s_l_values) := ⟨rfl, rfl, rfl, by decide +kernel, rfl, by decide +kernel, by decide +kernel⟩
abbrev s_l_test : Stmt := top 18
theorem sc_l_test : FnScope ["stock", "shape", "values", "way"] ["stock", "shape"] (defScope s_l_test) := ⟨rfl, rfl, rfl, by decide +kernel, rfl, by decide +kernel, by decide +kernel⟩
abbrev s_l_simple : Stmt := top 19
theorem sc_l_simple : FnScope ["stock", "shape", "others", "values", "way", "x", "a", "b", "callee", "many", "more", "args", "turn"] ["stock", "shape", "others"] (defScope s_l_simple) := ⟨rfl, rfl, rfl, by decide +kernel, rfl, by decide +kernel, by decide +kernel⟩
abbrev s_l_statement : Stmt := top 20
theorem sc_l_statement : FnScope ["stock", "shape", "others", "deep", "way", "test", "inner", "names"] ["stock", "shape", "others", "deep"] (defScope s_l_statement) := ⟨rfl, rfl, rfl, by decide +kernel, rfl, by decide +kernel, by decide +kernel⟩
abbrev s_l_statements : Stmt := top 21
theorem sc_l_statements : FnScope ["stock", "shape", "others", "deep", "many", "turn"] ["stock", "shape", "others", "deep", "many"] (defScope s_l_statements) := ⟨rfl, rfl, rfl, by decide +kernel, rfl, by decide +kernel, by decide +kernel⟩
abbrev s_l_size : Stmt := top 22
theorem sc_l_size : FnScope ["statements", "inner", "own"] ["statements"] (defScope s_l_size) := ⟨rfl, rfl, rfl, by decide +kernel, rfl, by decide +kernel, by decide +kernel⟩
abbrev s_l_function : Stmt := top 23
theorem sc_l_function : FnScope ["stock", "name", "shape", "others", "many", "given", "head", "foot", "body"] ["stock", "name", "shape", "others", "many"] (defScope s_l_function) := ⟨rfl, rfl, rfl, by decide +kernel, rfl, by decide +kernel, by decide +kernel⟩
abbrev s_l_program : Stmt := top 24
theorem sc_l_program : FnScope ["stock", "many", "most", "longest", "names", "shapes", "name", "others", "shape"] ["stock", "many", "most", "longest"] (defScope s_l_program) := ⟨rfl, rfl, rfl, by decide +kernel, rfl, by decide +kernel, by decide +kernel⟩
abbrev s_l_inner : Stmt := top 25
theorem sc_l_inner : FnScope ["statement"] ["statement"] (defScope s_l_inner) := ⟨rfl, rfl, rfl, by decide +kernel, rfl, by decide +kernel, by decide +kernel⟩
abbrev s_l_all_ways : Stmt := top 26
theorem sc_l_all_ways : FnScope ["statements", "way", "rows", "spot", "statement", "side", "inner"] ["statements", "way"] (defScope s_l_all_ways) := ⟨rfl, rfl, rfl, by decide +kernel, rfl, by decide +kernel, by decide +kernel⟩
abbrev s_l_is_told : Stmt := top 27
theorem sc_l_is_told : FnScope ["function", "way", "rows", "due", "own", "statement", "told", "error"] ["function", "way", "rows"] (defScope s_l_is_told) := ⟨rfl, rfl, rfl, by decide +kernel, rfl, by decide +kernel, by decide +kernel⟩
abbrev s_l_near : Stmt := top 28
theorem sc_l_near : FnScope ["stock", "way", "spot", "rows"] ["stock", "way"] (defScope s_l_near) := ⟨rfl, rfl, rfl, by decide +kernel, rfl, by decide +kernel, by decide +kernel⟩
abbrev s_l_within_four : Stmt := top 29
theorem sc_l_within_four : FnScope ["stock", "own", "turn", "side"] ["stock"] (defScope s_l_within_four) := ⟨rfl, rfl, rfl, by decide +kernel, rfl, by decide +kernel, by decide +kernel⟩
abbrev s_law : Stmt := top 30
theorem sc_law : FnScope ["script", "stock", "turn", "shape", "function", "many", "again", "known", "rows", "due", "way", "own", "told", "near"] ["script"] (defScope s_law) := ⟨rfl, rfl, rfl, by decide +kernel, rfl, by decide +kernel, by decide +kernel⟩
structure Txt (K : PySem.W.Frag) (mg : Str → Option Value) : Prop where
  b_ValueError : mg "ValueError" = none
  b_enumerate : mg "enumerate" = none
  b_int : mg "int" = none
  b_isinstance : mg "isinstance" = none
  b_len : mg "len" = none
  b_list : mg "list" = none
  b_min : mg "min" = none
  b_range : mg "range" = none
  b_repr : mg "repr" = none
  b_sorted : mg "sorted" = none
  b_sum : mg "sum" = none
  b_tuple : mg "tuple" = none
  b_zip : mg "zip" = none
  e_Unfit : ∃ C CH, OwnExc K mg "Unfit" C ∧ mg "HeldError" = some (.ref CH) ∧ PySem.W.kitOne K (.ref C) (.ref CH) = some true
  d_inner_of : ∃ f fd, Src K mg "inner_of" s_inner_of ["statement"] f fd
  d_walked : ∃ f fd, Src K mg "walked" s_walked ["statements", "above"] f fd
  d_names_of : ∃ f fd, Src K mg "names_of" s_names_of ["function"] f fd
  d_ways_of : ∃ f fd, Src K mg "ways_of" s_ways_of ["function"] f fd
  d_statement_at : ∃ f fd, Src K mg "statement_at" s_statement_at ["function", "way"] f fd
  d_l_stock : ∃ f fd, Src K mg "_law_stock" s_l_stock ["script"] f fd
  d_l_draw : ∃ f fd, Src K mg "_law_draw" s_l_draw ["stock", "size"] f fd
  d_l_pick : ∃ f fd, Src K mg "_law_pick" s_l_pick ["stock", "row"] f fd
  d_l_shuffled : ∃ f fd, Src K mg "_law_shuffled" s_l_shuffled ["stock", "row"] f fd
  d_l_clause : ∃ f fd, Src K mg "_law_clause" s_l_clause ["stock", "names", "many"] f fd
  d_l_saying : ∃ f fd, Src K mg "_law_saying" s_l_saying ["stock", "names", "many"] f fd
  d_l_shape : ∃ f fd, Src K mg "_law_shape" s_l_shape ["stock", "most"] f fd
  d_l_values : ∃ f fd, Src K mg "_law_values" s_l_values ["shape"] f fd
  d_l_test : ∃ f fd, Src K mg "_law_test" s_l_test ["stock", "shape"] f fd
  d_l_simple : ∃ f fd, Src K mg "_law_simple" s_l_simple ["stock", "shape", "others"] f fd
  d_l_statement : ∃ f fd, Src K mg "_law_statement" s_l_statement ["stock", "shape", "others", "deep"] f fd
  d_l_statements : ∃ f fd, Src K mg "_law_statements" s_l_statements ["stock", "shape", "others", "deep", "many"] f fd
  d_l_size : ∃ f fd, Src K mg "_law_size" s_l_size ["statements"] f fd
  d_l_function : ∃ f fd, Src K mg "_law_function" s_l_function ["stock", "name", "shape", "others", "many"] f fd
  d_l_inner : ∃ f fd, Src K mg "_law_inner" s_l_inner ["statement"] f fd
  d_l_all_ways : ∃ f fd, Src K mg "_law_all_ways" s_l_all_ways ["statements", "way"] f fd
  d_l_is_told : ∃ f fd, Src K mg "_law_is_told" s_l_is_told ["function", "way", "rows"] f fd
  d_l_near : ∃ f fd, Src K mg "_law_near" s_l_near ["stock", "way"] f fd
  d_l_within_four : ∃ f fd, Src K mg "_law_within_four" s_l_within_four ["stock"] f fd
  d_law : ∃ f fd, Src K mg "law" s_law ["script"] f fd
section
variable {X : Cx}
theorem pe_cI {x : Str} {i : Int} {pos : Pos} (h : ∃ t, X.mg x = some (.int i t)) (hg : Gl X x := by rfl) (hd : (x == ("__debug__" : Str)) = false := by decide) : PE X (.Name x pos) (tC (.int i)) := let ⟨t, h⟩ := h; pe_glob hg h ⟨t, rfl⟩ hd
theorem pe_cS {x y : Str} {pos : Pos} (h : ∃ t, X.mg x = some (.str y t)) (hg : Gl X x := by rfl) (hd : (x == ("__debug__" : Str)) = false := by decide) : PE X (.Name x pos) (tC (.str y)) := let ⟨t, h⟩ := h; pe_glob hg h ⟨t, rfl⟩ hd
theorem pe_cR {x : Str} {a : Addr} {pos : Pos} (h : X.mg x = some (.ref a)) (hg : Gl X x := by rfl) (hd : (x == ("__debug__" : Str)) = false := by decide) : PE X (.Name x pos) (tC (.ref a)) := pe_glob hg h rfl hd
theorem pe_bT {x : Str} {n : String} {pos : Pos} (h : X.mg x = none) (hv : bootBuiltins x = some (.type n)) (hg : Gl X x := by rfl) (hn : x ≠ "__name__" := by decide) (hd : (x == ("__debug__" : Str)) = false := by decide) : PE X (.Name x pos) (tC (.ty n)) := pe_bltn hg h hv rfl hn hd
end
end L2.Hx

/-! The stock: a draw. -/
namespace L2.Hx
open PySem PySem.Spec PyProof.Rows
theorem dp_ints {K : PySem.W.Frag} {H : Hp} : ∀ ns : List Int, DpAll K H (ns.map V.int) (ns.map PyData.int)
  | [] => .nil
  | n :: ns => .cons (.int n) (dp_ints ns)
theorem shaped_ints (ns : List Int) : SeqAt.shaped (.list (ns.map PyData.int)) = true := by
  have h1 : ∀ ns : List Int, PyData.canLayAll0 (ns.map PyData.int) = true := fun ns => by
    induction ns with
    | nil => rfl
    | cons n ns ih => simpa [PyData.canLayAll0, PyData.canLay0] using ih
  have h2 : ∀ ns : List Int, PyData.depthAll (ns.map PyData.int) ≤ 1 := fun ns => by
    induction ns with
    | nil => simp [PyData.depthAll]
    | cons n ns ih =>
      simp only [List.map_cons, PyData.depthAll, PyData.depth]
      omega
  have a := h1 ns
  have b := h2 ns
  unfold SeqAt.shaped
  rw [Bool.and_eq_true]
  refine ⟨by simpa [PyData.canLay0] using a, decide_eq_true ?_⟩
  simp only [PyData.depth]
  omega
theorem eqv_nil (ns : List Int) : PyData.eqv (.list (ns.map PyData.int)) (.list []) = decide (ns = []) := by
  cases ns <;> simp [PyData.eqv, PyData.eqvAll]
theorem Wd.gset {p l : Addr} {G H : Hp} (W : Wd p l G H) (ns : List Int) (hz : ns.length ≤ 63) : Ext p l G H G (upd H l (.lst (ns.map V.int))) := by
  have ne := W.ne
  refine ⟨⟨fun b u q => ?_, W.gp, W.gl, ?_, ⟨ns, hz, upd_same⟩⟩, Same.refl G, fun b u _ n2 q => by rw [upd_ne n2]; exact q, fun _ _ _ g => g⟩
  · rw [upd_ne (ne_of_none q W.gl)]
    exact W.same b u q
  · obtain ⟨m, t, m0, m1, e⟩ := W.dk
    exact ⟨m, t, m0, m1, by rw [upd_ne ne]; exact e⟩
theorem Wd.dset {p l : Addr} {G H : Hp} (W : Wd p l G H) {m : DeckM} {t : Int} (m0 : m.In G) (m1 : 0 ≤ t) : Ext p l G H G (upd H p (.lst (deckL l m t))) := by
  have ne := W.ne
  refine ⟨⟨fun b u q => ?_, W.gp, W.gl, ⟨m, t, m0, m1, upd_same⟩, ?_⟩, Same.refl G, fun b u n1 _ q => by rw [upd_ne n1]; exact q, fun _ _ _ g => g⟩
  · rw [upd_ne (ne_of_none q W.gp)]
    exact W.same b u q
  · obtain ⟨ns, z, e⟩ := W.ls
    exact ⟨ns, z, by rw [upd_ne ne.symm]; exact e⟩
theorem deck_set3 (l : Addr) (m : DeckM) (t u : Int) : (deckL l m t).set 3 (.int u) = deckL l m u := rfl
theorem atI_zero (x : V) (xs : List V) : atI (x :: xs) 0 = some x := by
  have h : (0 : Int) < ((x :: xs).length : Int) := by rw [List.length_cons]; omega
  unfold atI ixN
  rw [if_pos (Int.le_refl 0), if_pos h]
  rfl
theorem atI_nat2 {xs : List V} {i : Int} (h0 : 0 ≤ i) (h1 : i < xs.length) : ∃ x, atI xs i = some x ∧ x ∈ xs := by
  have hi : i.toNat < xs.length := by omega
  refine ⟨xs[i.toNat], ?_, List.getElem_mem hi⟩
  unfold atI ixN
  rw [if_pos h0, if_pos h1]
  show xs[i.toNat]? = _
  rw [List.getElem?_eq_getElem hi]
def spDraw : Sp := fun vs H Q _ => ∃ (p l : Addr) (G : Hp) (many : Int), vs = [.ref p, .int many] ∧ 1 ≤ many ∧ many < 1000000 ∧ Wd p l G H ∧ ∀ (r : Int) (H' : Hp), 0 ≤ r → r < many → Ext p l G H G H' → Q (.int r) H'
section
variable {P : Program} {w : World} {K : PySem.W.Frag} {mg : Str → Option Value} {base : Heap}
theorem D_draw (T : Txt K mg) : Df P w K mg base 1 "_law_draw" ["stock", "size"] spDraw := by
  obtain ⟨f, fd, S⟩ := T.d_l_draw
  refine Df.mk' (k := 0) S sc_l_draw (fun vs H Q E h => ?_) (fun cdv A outer s H vs Q E hgd hr h => ?_)
  · obtain ⟨p, l, G, many, rfl, _⟩ := h
    rfl
  · obtain ⟨p, l, G, many, rfl, h1, h2, W, k⟩ := h
    have hu := hu_of hr
    have big : (2000 : Nat) ≤ sizeLine := by decide
    refine ⟨_, (pss_cons (ps_if (pt_cmpR (op_neD hr.units) (pe_ix ix_list (pv 0) pe_int (fun _ _ => rfl)) (pe_lst pa_nil) (nomark _)) (pss_cons (ps_set (i := 2) sc_l_draw.nd rfl (.inl rfl) (pe_bm0 PySem.F.plainAttrs_list PySem.F.slot_list_pop PySem.F.type_list_pop mt_pop (pe_ix ix_list (pv 0) pe_int (fun _ _ => rfl))))
      (pss_cons (ps_if (pt_cmpR op_ge (pv 2) (pv 1) (nomark _)) (pss_one (ps_expr (pe_bm PySem.F.plainAttrs_list PySem.F.slot_list_append PySem.F.type_list_append mt_append (pe_ix ix_list (pv 0) pe_int (fun _ _ => rfl)) (pa_cons (pe_op op_fdivN (pv 2) (pv 1)) pa_nil)))) pss_nil)
      (pss_one (ps_ret (pe_op op_mod (pe_callTy call_int1 (by rfl) T.b_int (by decide +kernel) (pa_cons (pv 2) pa_nil)) (pv 1)))))) pss_nil)
      (pss_cons (ps_asg (pe_op op_add (pe_ix ix_list (pv 0) pe_int (fun _ _ => rfl)) pe_int) (pg_sub (pv 0) pe_int set_list))
      (pss_cons (ps_set (i := 3) sc_l_draw.nd rfl (.inl rfl) (pe_ix ix_list (pv 0) pe_int (fun _ _ => rfl)))
      (pss_cons (ps_set (i := 4) sc_l_draw.nd rfl (.inl rfl) (pe_op op_mod (pe_callTy call_int1 (by rfl) T.b_int (by decide +kernel) (pa_cons (pe_ix ix_list (pe_ix ix_list (pv 0) pe_int (fun _ _ => rfl)) (pe_op op_mod (pe_callTy call_int1 (by rfl) T.b_int (by decide +kernel) (pa_cons (pv 3) pa_nil)) (pe_callB call_len_seq (by rfl) T.b_len (by decide +kernel) (pa_cons (pe_ix ix_list (pv 0) pe_int (fun _ _ => rfl)) pa_nil))) (fun _ _ => rfl)) pa_nil)) pe_int))
      (pss_cons (ps_set (i := 5) sc_l_draw.nd rfl (.inl rfl) (pe_op op_mod (pe_callTy call_int1 (by rfl) T.b_int (by decide +kernel) (pa_cons (pe_op op_add (pe_op op_add (pe_op op_mul (pv 4) pe_int) (pe_op op_mul (pe_op op_mod (pe_callTy call_int1 (by rfl) T.b_int (by decide +kernel) (pa_cons (pe_ix ix_list (pv 0) pe_int (fun _ _ => rfl)) pa_nil)) pe_int) pe_int)) (pe_op op_mul (pv 3) pe_int)) pa_nil)) pe_int))
      (pss_cons (ps_set (i := 5) sc_l_draw.nd rfl (.inl rfl) (pe_op op_mod (pe_callTy call_int1 (by rfl) T.b_int (by decide +kernel) (pa_cons (pe_op op_add (pe_op op_add (pe_op op_mul (pv 5) (pv 5)) (pe_op op_mul (pv 3) pe_int)) (pv 4)) pa_nil)) pe_int))
      (pss_one (ps_ret (pe_op op_mod (pe_op op_fdiv (pe_op op_mod (pe_callTy call_int1 (by rfl) T.b_int (by decide +kernel) (pa_cons (pe_op op_add (pe_op op_mul (pv 5) pe_int) (pe_op op_mul (pv 3) pe_int)) pa_nil)) pe_int) pe_int) (pv 1)))))))))), ?_⟩
    obtain ⟨m, t, m0, m1, hd⟩ := W.dk
    obtain ⟨ns, hz, hl⟩ := W.ls
    refine ⟨_, rfl, p, _, 0, _, rfl, rfl, SqL.of hd, rfl, Nat.zero_le _, fun q hq => ?_⟩
    have E1 := W.tmp (o := .lst []) hq
    have hq_p := W.np hq
    have hq_l := W.nl hq
    have hd1 : upd H q (.lst []) p = some (.lst (deckL l m t)) := by rw [upd_ne hq_p.symm]; exact hd
    have hl1 : upd H q (.lst []) l = some (.lst (ns.map V.int)) := by rw [upd_ne hq_l.symm]; exact hl
    refine ⟨.list (ns.map PyData.int), .list [], .lst (SqL.of hl1) (dp_ints ns), .lst (SqL.of upd_same) .nil, shaped_ints ns, rfl, _, rfl, ?_⟩
    rw [eqv_nil]
    refine ite2 (fun hc2 => ?_) (fun hc2 => ?_)
    · -- the great ones
      have hne : ns ≠ [] := by simpa using hc2
      obtain ⟨ns, y, rfl⟩ : ∃ r x, ns = r ++ [x] := ⟨ns.dropLast, ns.getLast hne, (List.dropLast_concat_getLast _).symm⟩
      have lz : ns.length + 1 ≤ 63 := by rw [List.length_append, List.length_singleton] at hz; exact hz
      have em : (ns ++ [y]).map V.int = ns.map V.int ++ [V.int y] := by rw [List.map_append]; rfl
      refine ⟨_, rfl, p, _, 0, _, rfl, rfl, SqL.of hd1, rfl, .inl ⟨rfl, _, SqL.of hl1⟩, ?_⟩
      refine ⟨l, _, V.int y, rfl, rfl, hl1, by rw [em]; simp, ?_⟩
      rw [em, List.dropLast_concat]
      have E2 := E1.trans W (E1.w.gset ns (by omega))
      generalize hH2 : upd (upd H q (.lst [])) l (.lst (ns.map V.int)) = H2 at E2 ⊢
      have hl2 : H2 l = some (.lst (ns.map V.int)) := by rw [← hH2, upd_same]
      have hd2 : H2 p = some (.lst (deckL l m t)) := by rw [← hH2, upd_ne W.ne]; exact hd1
      dsimp only [gName, List.set]
      refine ⟨_, rfl, _, rfl, _, _, rfl, rfl, _, rfl, ite2 (fun hc3 => ?_) (fun hc3 => ?_)⟩
      · refine ⟨_, rfl, p, _, 0, _, rfl, rfl, SqL.of hd2, rfl, .inl ⟨rfl, _, SqL.of hl2⟩, _, rfl, _, rfl, _, _, rfl, rfl, ⟨by omega, by omega⟩, ?_⟩
        refine ⟨l, _, _, rfl, rfl, hl2, by rw [List.length_map]; omega, ?_⟩
        have E3 := E2.trans W (E2.w.gset (ns ++ [y.fdiv many]) (by rw [List.length_append, List.length_singleton]; exact lz))
        rw [show ns.map V.int ++ [V.int (y.fdiv many)] = (ns ++ [y.fdiv many]).map V.int by rw [List.map_append]; rfl]
        refine ⟨_, rfl, .inl ⟨_, rfl, _, rfl, _, _, rfl, rfl, by show (0 : Int) < many; omega, ?_⟩⟩
        exact k _ _ (Int.emod_nonneg _ (by omega)) (Int.emod_lt_of_pos _ (by omega)) E3
      · refine ⟨_, rfl, .inl ⟨_, rfl, _, rfl, _, _, rfl, rfl, by show (0 : Int) < many; omega, ?_⟩⟩
        exact k _ _ (Int.emod_nonneg _ (by omega)) (Int.emod_lt_of_pos _ (by omega)) E2
    · -- the mixed ones
      refine ⟨_, rfl, p, _, 3, V.int t, rfl, rfl, SqL.of hd1, rfl, _, _, rfl, rfl, _, rfl, p, _, 3, 3, rfl, rfl, hd1, rfl, ?_⟩
      rw [deck_set3]
      have E2 := E1.trans W (E1.w.dset (t := t + 1) m0 (by omega))
      generalize hH2 : upd (upd H q (.lst [])) p (.lst (deckL l m (t + 1))) = H2 at E2 ⊢
      have hd2 : H2 p = some (.lst (deckL l m (t + 1))) := by rw [← hH2, upd_same]
      have ha2 : H2 m.at_ = some (.lst (m.all.map V.int)) := E2.w.same _ _ m0.has
      have pos := m0.pos
      have few := m0.few
      dsimp only [gName, List.set]
      refine ⟨_, rfl, p, _, 3, V.int (t + 1), rfl, rfl, SqL.of hd2, rfl, ?_⟩
      dsimp only [gName, List.set]
      have lpos : (0 : Int) < (m.all.length : Int) := by omega
      have i0 := Int.emod_nonneg (t + 1) (show (m.all.length : Int) ≠ 0 by omega)
      have i1 := Int.emod_lt_of_pos (t + 1) lpos
      obtain ⟨x, hx, mx⟩ := atI_nat2 (xs := m.all.map V.int) i0 (by rw [List.length_map]; exact i1)
      obtain ⟨c0, _, rfl⟩ := List.mem_map.mp mx
      refine ⟨_, rfl, p, _, 1, V.ref m.at_, rfl, rfl, SqL.of hd2, rfl, _, rfl, .inl ⟨_, rfl, _, rfl, p, _, 1, V.ref m.at_, rfl, rfl, SqL.of hd2, rfl, m.at_, m.all.map V.int, rfl, .inl (SqL.of ha2), _, _, rfl, rfl, by show (0 : Int) < ((m.all.map V.int).length : Int); rw [List.length_map]; exact lpos, ?_⟩⟩
      rw [List.length_map]
      refine ⟨m.at_, m.all.map V.int, _, V.int c0, rfl, rfl, SqL.of ha2, hx, .inl ⟨_, rfl, _, _, rfl, rfl, by show (0 : Int) < 1000000007; decide, ?_⟩⟩
      generalize hc : c0 % 1000000007 = c
      have bc : 0 ≤ c ∧ c < 1000000007 := by omega
      dsimp only [gName, List.set]
      refine ⟨_, rfl, _, _, rfl, rfl, .inr ⟨by decide, by decide⟩, _, rfl, p, _, 2, V.int m.sum, rfl, rfl, SqL.of hd2, rfl, .inl ⟨_, rfl, _, _, rfl, rfl, by show (0 : Int) < 998244353; decide, ?_⟩⟩
      generalize hs : m.sum % 998244353 = sm
      have bs : 0 ≤ sm ∧ sm < 998244353 := by omega
      refine ⟨_, _, rfl, rfl, .inr ⟨by decide, by decide⟩, _, _, rfl, rfl, _, rfl, _, _, rfl, rfl, .inr ⟨by decide, by decide⟩, _, _, rfl, rfl, .inl ⟨_, rfl, _, _, rfl, rfl, by show (0 : Int) < 4294967291; decide, ?_⟩⟩
      generalize hb1 : (c * 48271 + sm * 69621 + (t + 1) * 2654435761) % 4294967291 = b1
      have bb1 : 0 ≤ b1 ∧ b1 < 4294967291 := by omega
      dsimp only [gName, List.set]
      refine ⟨_, rfl, _, rfl, _, _, rfl, rfl, .inl ⟨by omega, by omega⟩, _, rfl, _, _, rfl, rfl, .inr ⟨by decide, by decide⟩, _, _, rfl, rfl, _, rfl, _, _, rfl, rfl, .inl ⟨_, rfl, _, _, rfl, rfl, by show (0 : Int) < 4294967279; decide, ?_⟩⟩
      generalize hb2 : (b1 * b1 + (t + 1) * 362437 + c) % 4294967279 = b2
      dsimp only [gName, List.set]
      refine ⟨_, rfl, _, _, rfl, rfl, .inr ⟨by decide, by decide⟩, _, rfl, _, _, rfl, rfl, .inr ⟨by decide, by decide⟩, _, _, rfl, rfl, .inl ⟨_, rfl, _, _, rfl, rfl, by show (0 : Int) < 4294967231; decide, _, _, rfl, rfl, ⟨by decide, by decide⟩, _, rfl, _, _, rfl, rfl, by show (0 : Int) < many; omega, ?_⟩⟩
      exact k _ _ (Int.emod_nonneg _ (by omega)) (Int.emod_lt_of_pos _ (by omega)) E2
end
end L2.Hx

/-! What the law's own defs have in common. -/
namespace L2.Hx
open PySem PySem.Spec PyProof.Rows
section
variable {P : Program} {w : World} {K : PySem.W.Frag} {mg : Str → Option Value} {base : Heap} {p l : Addr} {σ : St} {G : Hp}
theorem sameAdd {H : Hp} {a : Addr} {o : HO} (h : H a = none) : Same H (upd H a o) := fun b u q => by
  rw [upd_ne (ne_of_none q h)]
  exact q
theorem sameOut {H0 H : Hp} {a : Addr} {o : HO} (s : Same H0 H) (h : H0 a = none) : Same H0 (upd H a o) := fun b u q => by
  rw [upd_ne (ne_of_none q h)]
  exact s b u q
theorem Da.tupI {K : PySem.W.Frag} {G : Hp} {v : V} {ds : List PyData} (h : Da K G v (.tuple ds)) : ∃ a xs, v = .ref a ∧ SqT K G a xs ∧ DaAll K G xs ds := by
  cases h with
  | tup h t => exact ⟨_, _, rfl, h, t⟩
theorem Da.strI {K : PySem.W.Frag} {G : Hp} {v : V} {z : Str} (h : Da K G v (.str z)) : v = .str z := by
  cases h
  rfl
theorem ite_of {c A B : Prop} {x : Bool} [Decidable c] (e : x = decide c) (h1 : c → A) (h2 : ¬ c → B) : if x = true then A else B := by
  subst e
  exact ite2 (fun h => h1 (of_decide_eq_true h)) fun h => h2 (of_decide_eq_false (Bool.eq_false_iff.mpr h))
theorem iteNot {c : Bool} {A B : Prop} (h1 : c = false → A) (h2 : c = true → B) : if (!c) = true then A else B := by
  cases c
  · exact iteT (h1 rfl)
  · exact iteF (h2 rfl)
theorem iteB {c : Bool} {A B : Prop} (h1 : c = true → A) (h2 : c = false → B) : if c = true then A else B := by
  cases c
  · exact iteF (h2 rfl)
  · exact iteT (h1 rfl)
theorem behindI {N I : Hp → Prop} {A : Prop} (main : (∀ H2, I H2 → N H2) → A) (fin : ∀ H2, I H2 → N H2) : A := main fin
theorem behindP {N I : V → Hp → Prop} {A : Prop} (main : (∀ u H2, I u H2 → N u H2) → A) (fin : ∀ u H2, I u H2 → N u H2) : A := main fin
theorem behind {N : Hp → Prop} {p l : Addr} {G H : Hp} {A : Prop} (main : (∀ H2 G2, Ext p l G H G2 H2 → N H2) → A) (fin : ∀ H2 G2, Ext p l G H G2 H2 → N H2) : A := main fin
theorem ite_dec {c A B : Prop} [Decidable c] (hc : c) (h : A) : if decide c = true then A else B := by
  rw [if_pos (decide_eq_true hc)]
  exact h
theorem if_no {c : Bool} {A B : Prop} (h : c = false) (b : B) : if c = true then A else B := by
  rw [h]
  exact b
theorem Wd.still {p l : Addr} {G H H' : Hp} (W : Wd p l G H) (s : Same H H') : Ext p l G H G H' := by
  refine ⟨⟨W.same.trans s, W.gp, W.gl, ?_, ?_⟩, Same.refl G, fun b o _ _ q => s b o q, fun _ _ _ g => g⟩
  · obtain ⟨m, t, m0, m1, e⟩ := W.dk
    exact ⟨m, t, m0, m1, s _ _ e⟩
  · obtain ⟨ns, z, e⟩ := W.ls
    exact ⟨ns, z, s _ _ e⟩
theorem Okd.fit {k n : Nat} {d : PyData} (h : Okd k n d) (hn : n ≤ sizeLine) : Fit d := ⟨h.ok, Nat.le_trans h.sz hn⟩
theorem cut_ints (ns : List Int) (lo hi : Option Int) : ∃ ms : List Int, cutV (ns.map V.int) lo hi = ms.map V.int ∧ ms.length ≤ ns.length := by
  refine ⟨(ns.drop (HT.sIx (ns.map V.int).length 0 lo)).take (HT.sIx (ns.map V.int).length (ns.map V.int).length hi - HT.sIx (ns.map V.int).length 0 lo), ?_, ?_⟩
  · unfold cutV
    rw [List.map_take, List.map_drop]
  · rw [List.length_take, List.length_drop]
    omega
def LsP (ψ : PyData → Prop) (d : PyData) : Prop := ∃ ds, d = .list ds ∧ 0 < ds.length ∧ ds.length < 1000000 ∧ ∀ x ∈ ds, ψ x
def spPick : Sp := fun vs H Q _ => ∃ (p l : Addr) (G : Hp) (a : Addr) (xs : List V), vs = [.ref p, .ref a] ∧ Wd p l G H ∧ H a = some (.lst xs) ∧ a ≠ p ∧ a ≠ l ∧ 0 < xs.length ∧ xs.length < 1000000 ∧ ∀ x H', x ∈ xs → Ext p l G H G H' → Q x H'
def spDrawn (K : PySem.W.Frag) (ψ φ : PyData → Prop) : Sp := fun vs H Q _ => ∃ (p l : Addr) (G : Hp) (v : V) (d : PyData), vs = [.ref p, v] ∧ Wd p l G H ∧ Da K G v d ∧ ψ d ∧ ∀ u e G2 H2, Ext p l G H G2 H2 → Da K G2 u e → φ e → Q u H2
theorem D_pick (T : Txt K mg) : Df P w K mg base 2 "_law_pick" ["stock", "row"] spPick := by
  have D_l_draw := D_draw (P := P) (w := w) (base := base) T
  obtain ⟨f, fd, S⟩ := T.d_l_pick
  refine Df.mk' (k := 1) S sc_l_pick (fun vs H Q E h => ?_) (fun cdv A outer s H vs Q E hgd hr h => ?_)
  · obtain ⟨p, l, G, a, xs, rfl, _⟩ := h
    rfl
  · obtain ⟨p, l, G, a, xs, rfl, W, ha, n1, n2, h0, h1, k⟩ := h
    refine ⟨_, (pss_one (ps_ret (pe_ix ix_list (pv 1) (pe_d D_l_draw hgd hr (pa_cons (pv 0) (pa_cons (pe_callB call_len_seq (by rfl) T.b_len (by decide +kernel) (pa_cons (pv 1) pa_nil)) pa_nil))) (fun _ _ => rfl)))), ?_⟩
    refine ⟨_, rfl, _, rfl, _, rfl, a, xs, rfl, .inl (SqL.of ha), p, l, G, _, rfl, by omega, by omega, W, fun r H1 r0 r1 e => ?_⟩
    obtain ⟨x, hx, mx⟩ := atI_nat2 r0 r1
    exact ⟨a, xs, r, x, rfl, rfl, SqL.of (e.keep _ _ n1 n2 ha), hx, k x H1 mx e⟩
theorem td_pick {p l : Addr} {σ : St} {G : Hp} {ta : TE} {ψ : PyData → Prop} {i : Nat} (h : TD K p l σ G ta (LsP ψ)) (hd : σ[i]? = some (some (.ref p))) : TD K p l σ G (tCall spPick [] E0 (tCons (tVar i) (tCons ta tNil))) ψ := fun G1 H Q W s kk =>
  ⟨_, hd, h G1 H _ W s fun v d G2 H2 e da f => by
    obtain ⟨ds, rfl, z0, z1, o⟩ := f
    cases da with
    | @lst a xs _ t1 a1 =>
      have hl := a1.length
      refine ⟨p, l, G2, a, xs, rfl, e.w, e.w.same _ _ t1, fun q => ?_, fun q => ?_, by omega, by omega, fun x H3 mx e3 => ?_⟩
      · rw [q, e.w.gp] at t1
        cases t1
      · rw [q, e.w.gl] at t1
        cases t1
      · obtain ⟨d, md, dd⟩ := a1.mem mx
        exact kk x d G2 H3 (e.trans W e3) dd (o d md)⟩
theorem td_lstP {p l : Addr} {σ : St} {G : Hp} {tr : TA} {Φ : List PyData → Prop} (h : TDs K p l σ G tr Φ) (hz : ∀ ds, Φ ds → ds.length ≤ sizeLine) : TD K p l σ G (tLst tr) (fun d => ∃ ds, d = .list ds ∧ Φ ds) := fun G1 H Q W s k =>
  h G1 H _ W s fun vs ds G2 H2 e da f => ⟨by rw [da.length]; exact hz ds f, fun a ha => k _ _ _ _ (e.trans W (e.w.put ha)) (.lst upd_same (da.mono (e.w.put (o := .lst vs) ha).sub)) ⟨ds, rfl, f⟩⟩
theorem td_mono {t : TE} {k n k2 n2 : Nat} (h : TD K p l σ G t (Okd k n)) (hk : k ≤ k2 := by decide) (hn : n ≤ n2 := by decide) : TD K p l σ G t (Okd k2 n2) := h.imp fun d f => f.mono hk hn
theorem TD.app {t : TE} {φ : PyData → Prop} (h : TD K p l σ G t φ) {H : Hp} {Q : VK} (W : Wd p l G H) (k : ∀ v d G2 H2, Ext p l G H G2 H2 → Da K G2 v d → φ d → Q v H2) : t σ H Q := h G H Q W (Same.refl G) k
theorem TDs.asgL {H : Hp} {D : Ends} {i : Nat} {tr : TA} {Φ : List PyData → Prop} (h : TDs K p l σ G tr Φ) (W : Wd p l G H) (hz : ∀ ds, Φ ds → ds.length ≤ sizeLine)
    (k : ∀ vs ds G2 H2 r, Ext p l G H G2 H2 → DaAll K G2 vs ds → Φ ds → H2 r = none → D.nx (σ.set i (some (.ref r))) (upd H2 r (.lst vs))) : tAsg (tLst tr) (gName i) D σ H :=
  h G H _ W (Same.refl G) fun vs ds G2 H2 e da f => ⟨by rw [da.length]; exact hz ds f, fun r hr => k vs ds G2 H2 r e da f hr⟩
theorem da_strs {K : PySem.W.Frag} {G : Hp} : ∀ ws : List Str, DaAll K G (ws.map V.str) (ws.map PyData.str)
  | [] => .nil
  | n :: ns => .cons (.str n) (da_strs ns)
theorem line16 : 16000000 ≤ sizeLine := by decide
end
theorem erase_perm {α : Type} : ∀ (l : List α) (i : Nat) (h : i < l.length), (l[i] :: l.eraseIdx i).Perm l
  | [], i, h => absurd h (Nat.not_lt_zero i)
  | x :: xs, 0, _ => .refl _
  | x :: xs, i + 1, h => (List.Perm.swap x (xs[i]'(Nat.lt_of_succ_lt_succ h)) (xs.eraseIdx i)).trans ((erase_perm xs i (Nat.lt_of_succ_lt_succ h)).cons x)
def IntD (B : Int) (d : PyData) : Prop := ∃ n : Int, d = .int n ∧ 0 ≤ n ∧ n ≤ B
def AllF (φ : PyData → Prop) (m : Nat) (ds : List PyData) : Prop := ds.length = m ∧ ∀ d ∈ ds, φ d
theorem vint {a b : Int} (h : V.int a = V.int b) : a = b := by
  cases h
  rfl
theorem tup_or : ∀ d : PyData, (∃ ds, d = .tuple ds) ∨ isTup d = false
  | .tuple ds => .inl ⟨ds, rfl⟩
  | .none => .inr rfl
  | .bool _ => .inr rfl
  | .int _ => .inr rfl
  | .str _ => .inr rfl
  | .list _ => .inr rfl
  | .dict _ => .inr rfl
section
variable {K : PySem.W.Frag} {p l : Addr} {σ : St} {G : Hp} {φ : PyData → Prop} {t te : TE} {tr : TA} {m : Nat} {B : Int}
theorem tds_nilF : TDs K p l σ G tNil (AllF φ 0) := fun G1 H Q W _ k => k _ _ _ _ (Ext.refl W) .nil ⟨rfl, fun d h => absurd h List.not_mem_nil⟩
theorem tds_consF (h : TD K p l σ G t φ) (hr : TDs K p l σ G tr (AllF φ m)) : TDs K p l σ G (tCons t tr) (AllF φ (m + 1)) := fun G1 H Q W s k =>
  tds_consP h hr G1 H Q W s fun vs ds G2 H2 e da f => k vs ds G2 H2 e da (by
    obtain ⟨d, r, rfl, h1, l1, h2⟩ := f
    refine ⟨by rw [List.length_cons, l1], fun x mx => ?_⟩
    rcases List.mem_cons.mp mx with rfl | mx
    · exact h1
    · exact h2 x mx)
theorem td_lstF (h : TDs K p l σ G tr (AllF φ (m + 1))) (hz : m + 1 < 1000000 := by decide) : TD K p l σ G (tLst tr) (LsP φ) := TD.imp (td_lstP h fun ds f => by
  have : 1000000 ≤ sizeLine := by decide
  rw [f.1]
  omega) fun d ⟨ds, e, l1, h1⟩ => ⟨ds, e, by omega, by omega, h1⟩
theorem td_intF {i : Int} (h0 : 0 ≤ i := by decide) (h1 : i ≤ B := by decide) : TD K p l σ G (tC (.int i)) (IntD B) := .flat (fun _ => .int i) ⟨i, rfl, h0, h1⟩
theorem td_powF {i : Int} (h : (0 : Int) ≤ 10 ^ i.toNat ∧ (10 : Int) ^ i.toNat ≤ B := by decide +kernel) (hc : CPow 10 i := by exact ⟨by decide, by decide, by decide⟩) : TD K p l σ G (tOp (rI CPow fun i j => .int (i ^ j.toNat)) (tC (.int 10)) (tC (.int i))) (IntD B) := fun G1 H Q W s kk =>
  ⟨10, i, rfl, rfl, hc, kk _ _ _ _ (Ext.refl W) (.int _) ⟨_, rfl, h.1, h.2⟩⟩
theorem td_varI {j : Nat} {i : Int} (hj : σ[j]? = some (some (.int i))) (h0 : 0 ≤ i) (h1 : i ≤ B) : TD K p l σ G (tVar j) (IntD B) := td_var hj (.int i) ⟨i, rfl, h0, h1⟩
theorem td_addI {j : Nat} {i c : Int} (hj : σ[j]? = some (some (.int i))) (h0 : 0 ≤ i + c) (h1 : i + c ≤ B) : TD K p l σ G (tOp (rI0 fun i j => .int (i + j)) (tVar j) (tC (.int c))) (IntD B) := fun G1 H Q W s kk =>
  ⟨_, hj, _, _, rfl, rfl, kk _ _ _ _ (Ext.refl W) (.int _) ⟨_, rfl, h0, h1⟩⟩
theorem td_lcl {a : Addr} {xs : List V} {i j : Nat} {φ : Nat → PyData → Prop} (hi : σ[i]? = some (some (.ref a))) (hS : SqL K G a xs) (hM : xs.length < sizeLine) (he : ∀ n x, xs[n]? = some x → TD K p l ((σ.set j none).set j (some x)) G te (φ n)) :
    TD K p l σ G (tLc (iList K (tVar i)) (gName j) tYes te [j]) (fun d => ∃ ds, d = .list ds ∧ ds.length = xs.length ∧ ∀ n e, ds[n]? = some e → φ n e) := fun G1 H Q W s k =>
  ⟨_, hi, a, rfl, ⟨xs, (s.trans W.same).seq hS⟩, fun D hD => by
    have nDp := W.np hD
    have nDl := W.nl hD
    have E1 := W.tmp (o := .lst []) hD
    refine lc_list (K := K) (a := a) (xs := xs) (fun i H3 => ∃ G3 vs ds, Wd p l G3 H3 ∧ Same G1 G3 ∧ G3 D = none ∧ H3 D = some (.lst vs) ∧ DaAll K G3 vs ds ∧ ds.length = i ∧ (∀ n e, ds[n]? = some e → φ n e) ∧
        (∀ b o, b ≠ p → b ≠ l → b ≠ D → H b = some o → H3 b = some o) ∧ (∀ b o, H b = some o → G1 b = none → G3 b = none))
      ⟨G1, [], [], E1.w, Same.refl _, W.same.free hD, upd_same, .nil, rfl, fun n e m => (by cases n <;> cases m), fun b o n1 n2 n3 q => by rw [upd_ne n3]; exact q, fun b o _ g => g⟩
      (fun i H3 _ ⟨G3, vs, ds, w3, s3, _⟩ => ((s.trans s3).trans w3.same).seq hS) ?_ ?_
    · rintro n x H3 hx ⟨G3, vs, ds, w3, s3, gD, hD3, da3, l3, f3, k3, n3⟩
      have hn := (List.getElem?_eq_some_iff.mp hx).1
      refine ⟨set_none σ, ?_⟩
      show te _ _ _
      refine he n x hx G3 H3 _ w3 (s.trans s3) fun v d G4 H4 e4 da4 f4 => ?_
      have hD4 : H4 D = some (.lst vs) := e4.keep _ _ nDp nDl hD3
      have gD4 : G4 D = none := e4.new _ _ hD3 gD
      refine ⟨vs, hD4, by rw [da3.length, l3]; omega, G4, vs ++ [v], ds ++ [d], e4.w.own nDp nDl gD4, s3.trans e4.sub, gD4, upd_same, (da3.mono e4.sub).append (.cons da4 .nil),
        by rw [List.length_append, l3]; rfl, fun n2 e2 m => ?_, fun b o n1 n2 n4 q => ?_, fun b o q g => ?_⟩
      · rw [List.getElem?_append] at m
        split at m
        · exact f3 _ _ m
        · have hn2 : n2 - ds.length = 0 := by
            have := (List.getElem?_eq_some_iff.mp m).1
            rw [List.length_singleton] at this
            omega
          rw [hn2] at m
          cases m
          have : n2 = n := by omega
          rw [this]
          exact f4
      · rw [upd_ne n4]
        exact e4.keep _ _ n1 n2 (k3 b o n1 n2 n4 q)
      · have g3 := n3 b o q g
        by_cases b1 : b = p
        · subst b1
          exact e4.w.gp
        · by_cases b2 : b = l
          · subst b2
            exact e4.w.gl
          · exact e4.new b o (k3 b o b1 b2 (ne_of_none q hD) q) g3
    · rintro H3 ⟨G3, vs, ds, w3, s3, gD, hD3, da3, l3, f3, k3, n3⟩
      obtain ⟨w4, s4⟩ := w3.hold nDp nDl gD hD3
      have E2 : Ext p l G1 H (upd G3 D (.lst vs)) H3 := ⟨w4, s3.trans s4, fun b o n1 n2 q => k3 b o n1 n2 (ne_of_none q hD) q, fun b o q g => by
        rw [upd_ne (ne_of_none q hD)]
        exact n3 b o q g⟩
      exact k _ _ _ _ E2 (.lst upd_same (da3.mono s4)) ⟨ds, rfl, l3, f3⟩⟩
end
end L2.Hx

/-! The deck is made; items in a drawn order. -/
namespace L2.Hx
open PySem PySem.Spec PyProof.Rows
/-- all that is new is held -/
theorem Wd.grow {p l : Addr} {G H H' : Hp} (W : Wd p l G H) (s : Same H H') : ∃ G2, Ext p l G H G2 H' ∧ ∀ b, H b = none → G2 b = H' b := by
  have hp : ∃ o, H p = some o := by
    obtain ⟨m, t, _, _, h⟩ := W.dk
    exact ⟨_, h⟩
  have hl : ∃ o, H l = some o := by
    obtain ⟨m, _, h⟩ := W.ls
    exact ⟨_, h⟩
  refine ⟨fun b => if (H b).isNone = true then H' b else G b, ⟨⟨fun b o q => ?_, ?_, ?_, ?_, ?_⟩, fun b o q => ?_, fun b o _ _ q => s _ _ q, fun b o q g => ?_⟩, fun b q => ?_⟩
  · split at q
    · exact q
    · exact s _ _ (W.same _ _ q)
  · obtain ⟨o, e⟩ := hp
    show (if (H p).isNone = true then H' p else G p) = none
    rw [e]
    exact W.gp
  · obtain ⟨o, e⟩ := hl
    show (if (H l).isNone = true then H' l else G l) = none
    rw [e]
    exact W.gl
  · obtain ⟨m, t, a, b, h⟩ := W.dk
    exact ⟨m, t, a.mono (fun c u q => by show (if (H c).isNone = true then H' c else G c) = some u; rw [W.same _ _ q]; exact q), b, s _ _ h⟩
  · obtain ⟨m, a, h⟩ := W.ls
    exact ⟨m, a, s _ _ h⟩
  · show (if (H b).isNone = true then H' b else G b) = some o
    rw [W.same _ _ q]
    exact q
  · show (if (H b).isNone = true then H' b else G b) = none
    rw [q]
    exact g
  · show (if (H b).isNone = true then H' b else G b) = H' b
    rw [q]
    rfl
theorem perm_map_inv {α β : Type} {f : α → β} {ys zs : List β} (h : ys.Perm zs) : ∀ L : List α, zs = L.map f → ∃ M : List α, ys = M.map f ∧ M.Perm L := by
  induction h with
  | nil =>
    intro L e
    cases L with
    | nil => exact ⟨[], rfl, .refl _⟩
    | cons a L => cases e
  | cons x _ ih =>
    intro L e
    cases L with
    | nil => cases e
    | cons a L =>
      injection e with e1 e2
      obtain ⟨M, m1, m2⟩ := ih L e2
      exact ⟨a :: M, by rw [m1, e1]; rfl, m2.cons a⟩
  | swap x y l =>
    intro L e
    cases L with
    | nil => cases e
    | cons a L =>
      cases L with
      | nil => cases e
      | cons b L =>
        injection e with e1 e2
        injection e2 with e2 e3
        exact ⟨b :: a :: L, by rw [e1, e2, e3]; rfl, List.Perm.swap _ _ _⟩
  | trans _ _ ih1 ih2 =>
    intro L e
    obtain ⟨M2, e2, p2⟩ := ih2 L e
    obtain ⟨M1, e1, p1⟩ := ih1 M2 e2
    exact ⟨M1, e1, p1.trans p2⟩
def Shp (d : PyData) : Prop := d.canLay0 = true ∧ d.depth ≤ 20
theorem shp_all : ∀ {es : List PyData}, (∀ e ∈ es, Shp e) → PyData.canLayAll0 es = true ∧ PyData.depthAll es ≤ 20
  | [], _ => ⟨rfl, by simp [PyData.depthAll]⟩
  | e :: es, h => by
    obtain ⟨a, b⟩ := shp_all (es := es) fun x m => h x (List.mem_cons_of_mem _ m)
    obtain ⟨c, d⟩ := h e List.mem_cons_self
    refine ⟨by simp [PyData.canLayAll0, c, a], ?_⟩
    simp only [PyData.depthAll]
    omega
theorem shaped_list {es : List PyData} (h : ∀ e ∈ es, Shp e) : SeqAt.shaped (.list es) = true := by
  obtain ⟨a, b⟩ := shp_all h
  unfold SeqAt.shaped
  rw [Bool.and_eq_true]
  refine ⟨by simpa [PyData.canLay0] using a, decide_eq_true ?_⟩
  simp only [PyData.depth]
  omega
mutual
theorem Da.dp {K : PySem.W.Frag} {G H : Hp} (s : Same G H) : ∀ {d : PyData} {v : V}, Da K G v d → d.canLay0 = true → Dp K H v d
  | _, _, .non, _ => .non
  | _, _, .bl b, _ => .bl b
  | _, _, .int i, _ => .int i
  | _, _, .str x, _ => .str x
  | _, _, .lst h t, c => .lst (SqL.of (s _ _ h)) (DaAll.dp s t (by simpa [PyData.canLay0] using c))
  | _, _, .tup h t, c => .tup (sameT s h) (DaAll.dp s t (by simpa [PyData.canLay0] using c))
  | _, _, .dct _ _, c => by simp [PyData.canLay0] at c
theorem DaAll.dp {K : PySem.W.Frag} {G H : Hp} (s : Same G H) : ∀ {ds : List PyData} {vs : List V}, DaAll K G vs ds → PyData.canLayAll0 ds = true → DpAll K H vs ds
  | _, _, .nil, _ => .nil
  | _, _, .cons h t, c => by
    rw [PyData.canLayAll0, Bool.and_eq_true] at c
    exact .cons (Da.dp s h c.1) (DaAll.dp s t c.2)
end
theorem eqv_nilG (es : List PyData) : PyData.eqv (.list es) (.list []) = decide (es = []) := by
  cases es <;> simp [PyData.eqv, PyData.eqvAll]
theorem da_zip {K : PySem.W.Frag} {G : Hp} : ∀ {zs : List (V × PyData)}, (∀ z ∈ zs, Da K G z.1 z.2) → DaAll K G (zs.map Prod.fst) (zs.map Prod.snd)
  | [], _ => .nil
  | z :: zs, h => .cons (h z List.mem_cons_self) (da_zip fun x m => h x (List.mem_cons_of_mem _ m))
theorem erase_map {α β : Type} (f : α → β) : ∀ (ns : List α) (j : Nat), (ns.map f).eraseIdx j = (ns.eraseIdx j).map f
  | [], _ => rfl
  | _ :: _, 0 => rfl
  | n :: ns, j + 1 => congrArg (f n :: ·) (erase_map f ns j)
/-- items in another order; each with what it is -/
def spShuf (K : PySem.W.Frag) : Sp := fun vs H Q _ => ∃ (p l : Addr) (G : Hp) (a : Addr) (zs : List (V × PyData)), vs = [.ref p, .ref a] ∧ Wd p l G H ∧ (SqL K H a (zs.map Prod.fst) ∨ SqT K H a (zs.map Prod.fst)) ∧ zs.length ≤ 1000 ∧ (∀ z ∈ zs, Da K G z.1 z.2 ∧ Shp z.2) ∧
  ∀ (r : Addr) (ys : List (V × PyData)) (G' H' : Hp), Ext p l G H G' H' → H' r = some (.lst (ys.map Prod.fst)) → H r = none → G' r = none → ys.Perm zs → Q (.ref r) H'
def spStock (K : PySem.W.Frag) : Sp := fun vs H Q _ => ∃ (a : Addr) (ns : List Int), vs = [.ref a] ∧ SqL K H a (ns.map V.int) ∧ ns.length ≤ 63 ∧ ∀ p l G H', Wd p l G H' → Q (.ref p) H'
section
variable {P : Program} {w : World} {K : PySem.W.Frag} {mg : Str → Option Value} {base : Heap}
theorem D_l_shuffled (T : Txt K mg) : Df P w K mg base 2 "_law_shuffled" ["stock", "row"] (spShuf K) := by
  have D_l_draw := D_draw (P := P) (w := w) (base := base) T
  obtain ⟨f, fd, S⟩ := T.d_l_shuffled
  refine Df.mk' (k := 1) S sc_l_shuffled (fun vs H Q E h => ?_) (fun cdv A outer s H vs Q E hgd hr h => ?_)
  · obtain ⟨p, l, G, a, zs, rfl, _⟩ := h
    rfl
  · obtain ⟨p, l, G, a, zs, rfl, W, aL, lw, dz, k⟩ := h
    have line5 : (5000 : Nat) ≤ sizeLine := by decide
    refine ⟨_, (pss_cons (ps_par (i := 2) (j := 3) (by rfl) sc_l_shuffled.nd rfl rfl (by decide) rfl rfl (pa_cons (pe_callTy call_list_of (by rfl) T.b_list (by decide +kernel) (pa_cons (pv 1) pa_nil)) (pa_cons (pe_lst pa_nil) pa_nil)) (by rfl))
      (pss_cons (ps_for PassesOwn.never rfl (pi_range1 rfl T.b_range (pa_cons (pe_callB call_len_seq (by rfl) T.b_len (by decide +kernel) (pa_cons (pv 1) pa_nil)) pa_nil)) (pg_name (i := 4) sc_l_shuffled.nd rfl (.inl rfl))
      (pss_one (ps_expr (pe_bm PySem.F.plainAttrs_list PySem.F.slot_list_append PySem.F.type_list_append mt_append (pv 3) (pa_cons (pe_bm PySem.F.plainAttrs_list PySem.F.slot_list_pop PySem.F.type_list_pop mt_popAt (pv 2) (pa_cons (pe_d D_l_draw hgd hr (pa_cons (pv 0) (pa_cons (pe_callB call_len_seq (by rfl) T.b_len (by decide +kernel) (pa_cons (pv 2) pa_nil)) pa_nil))) pa_nil)) pa_nil)))))
      (pss_one (ps_ret (pv 3))))), ?_⟩
    refine ⟨_, rfl, a, zs.map Prod.fst, rfl, aL, fun q hq => ⟨Nat.zero_le _, fun r hr' => ⟨_, _, rfl, ?_⟩⟩⟩
    have nqr : q ≠ r := fun e => by
      rw [← e, upd_same] at hr'
      cases hr'
    have e1 := W.tmp (o := .lst (zs.map Prod.fst)) hq
    have e2 := e1.w.tmp (o := .lst []) hr'
    have qp := W.np hq
    have ql := W.nl hq
    have rp := e1.w.np hr'
    have rl := e1.w.nl hr'
    have gq : G q = none := W.same.free hq
    have gr : G r = none := e1.w.same.free hr'
    have hr0 : H r = none := by
      cases z : H r with
      | none => rfl
      | some o2 =>
        rw [upd_ne nqr.symm, z] at hr'
        cases hr'
    have E2 := e1.trans W e2
    have q2 : (upd (upd H q (.lst (zs.map Prod.fst))) r (.lst [])) q = some (.lst (zs.map Prod.fst)) := by rw [upd_ne nqr, upd_same]
    have r2 : (upd (upd H q (.lst (zs.map Prod.fst))) r (.lst [])) r = some (.lst (([] : List (V × PyData)).map Prod.fst)) := upd_same
    have aL2 : SqL K (upd (upd H q (.lst (zs.map Prod.fst))) r (.lst [])) a (zs.map Prod.fst) ∨ SqT K (upd (upd H q (.lst (zs.map Prod.fst))) r (.lst [])) a (zs.map Prod.fst) := aL.imp (((sameAdd hq).trans (sameAdd hr')).seq ·) (sameT ((sameAdd hq).trans (sameAdd hr')))
    generalize upd (upd H q (.lst (zs.map Prod.fst))) r (.lst []) = H2 at E2 q2 r2 aL2 ⊢
    dsimp only [gName, List.set]
    refine ⟨_, rfl, a, zs.map Prod.fst, rfl, aL2, ?_⟩
    refine ⟨_, rfl, by rw [List.length_map]; omega, by rw [List.length_map]; omega, for_range (lo := 0) (n := (((zs.map Prod.fst).length : Nat) : Int).toNat) (fun i σ H3 => ∃ o4, σ = [some (.ref p), some (.ref a), some (.ref q), some (.ref r), o4] ∧ ∃ xs ys : List (V × PyData), ys.length = i ∧ (xs ++ ys).Perm zs ∧ Ext p l G H G H3 ∧ H3 q = some (.lst (xs.map Prod.fst)) ∧ H3 r = some (.lst (ys.map Prod.fst)))
      ⟨_, rfl, zs, [], rfl, by rw [List.append_nil], E2, q2, r2⟩ ?_ ?_⟩
    · rintro i σ H4 hi ⟨o4, rfl, xs, ys, li, pm, E4, q4, r4⟩
      rw [Int.toNat_natCast, List.length_map] at hi
      have lxy : xs.length + ys.length = zs.length := by rw [← List.length_append]; exact pm.length_eq
      dsimp only [gName, List.set]
      refine ⟨_, rfl, .inl ⟨rfl, _, SqL.of r4⟩, _, rfl, .inl ⟨rfl, _, SqL.of q4⟩, _, rfl, _, rfl, q, xs.map Prod.fst, rfl, .inl (SqL.of q4), p, l, G, _, rfl, by rw [List.length_map]; omega, by rw [List.length_map]; omega, E4.w, fun d H5 d0 d1 e5 => ?_⟩
      rw [List.length_map] at d1
      have dn : d.toNat < xs.length := by omega
      have q5 := e5.keep _ _ qp ql q4
      have r5 := e5.keep _ _ rp rl r4
      have pm2 : (xs.eraseIdx d.toNat ++ (ys ++ [xs[d.toNat]])).Perm zs := by
        refine List.Perm.trans ?_ pm
        refine List.Perm.trans ?_ ((erase_perm xs d.toNat dn).append_right ys)
        rw [← List.append_assoc]
        exact List.perm_append_comm
      refine ⟨q, xs.map Prod.fst, d, d.toNat, xs[d.toNat].1, rfl, rfl, q5, by omega, by omega, ?_, by rw [List.getElem?_map, List.getElem?_eq_getElem dn]; rfl, ?_⟩
      · rw [List.length_map]
        have d2 : ¬ d < 0 := by omega
        simp [seqIndex?, d2, d0, d1]
      · have E5 := (E4.trans W e5)
        have W6 := E5.w.own (o := .lst ((xs.map Prod.fst).eraseIdx d.toNat)) qp ql gq
        refine ⟨r, ys.map Prod.fst, _, rfl, rfl, by rw [upd_ne nqr.symm]; exact r5, by rw [List.length_map]; omega, _, rfl, xs.eraseIdx d.toNat, ys ++ [xs[d.toNat]], by rw [List.length_append, li]; rfl, pm2, ?_, ?_, ?_⟩
        · refine ⟨W6.own rp rl gr, Same.refl G, fun b o n1 n2 hb => ?_, fun b o hb g => g⟩
          rw [upd_ne (ne_of_none hb hr0), upd_ne (ne_of_none hb hq)]
          exact E5.keep b o n1 n2 hb
        · rw [upd_ne nqr, upd_same, erase_map]
        · rw [upd_same, List.map_append]
          rfl
    · rintro σ H4 ⟨o4, rfl, xs, ys, li, pm, E4, q4, r4⟩
      rw [Int.toNat_natCast, List.length_map] at li
      have lxy : xs.length + ys.length = zs.length := by rw [← List.length_append]; exact pm.length_eq
      have x0 : xs = [] := List.length_eq_zero_iff.mp (by omega)
      subst x0
      exact ⟨_, rfl, k r ys _ H4 E4 r4 hr0 gr pm⟩
theorem D_stock (T : Txt K mg) : Df P w K mg base 1 "_law_stock" ["script"] (spStock K) := by
  obtain ⟨f, fd, S⟩ := T.d_l_stock
  refine Df.mk' (k := 0) S sc_l_stock (fun vs H Q E h => ?_) (fun cdv A outer s H vs Q E hgd hr h => ?_)
  · obtain ⟨a, ns, rfl, _⟩ := h
    rfl
  · obtain ⟨a, ns, rfl, hS, hz, k⟩ := h
    have hu := hu_of hr
    refine ⟨_, (pss_cons (ps_setLc (i := 1) (own := [("cell", 2)]) (g := gName 2) (tt := tYes) rfl sc_l_stock.nd rfl rfl (sw_true rfl rfl rfl (by decide +kernel)) (pi_list (pe_slice sl_list (pv 0) po_none (po_some pe_int))) (blkOk_by (own := [("cell", 2)]) (N := ["script", "flat", "cell"]) (sc := defScope s_l_stock) (by decide +kernel)) (fun _ _ _ _ _ => pg_name (i := 2) sc_l_stock.nd rfl (.inl rfl)) (fun _ _ _ _ _ => pts_nil) (fun _ _ _ _ _ => (pe_ifExp (pt_cmpR op_ge (pv 2) pe_int (nomark _)) (pe_op op_mul pe_int (pv 2)) (pe_op op_sub (pe_op op_mul (pe_un un_neg pe_int) (pv 2)) pe_int))))
      (pss_one (ps_ret (pe_lst (pa_cons (pe_lc (own := [("cell", 2)]) (g := gName 2) rfl sc_l_stock.nd (pi_list (pv 1)) (blkOk_by (own := [("cell", 2)]) (N := ["script", "flat", "cell"]) (sc := defScope s_l_stock) (by decide +kernel)) (fun _ _ _ _ _ => pg_name (i := 2) sc_l_stock.nd rfl (.inl rfl)) (fun _ _ _ _ _ => (pts_one (pt_cmpR op_ge (pv 2) (pe_op op_pow pe_int pe_int) (nomark _)))) (fun _ _ _ _ _ => (pv 2))) (pa_cons (pe_op op_cat (pv 1) (pe_lst (pa_cons (pe_op op_add (pe_callB call_len_seq (by rfl) T.b_len (by decide +kernel) (pa_cons (pv 1) pa_nil)) pe_int) pa_nil))) (pa_cons (pe_callB (cr_sum rfl) (by rfl) T.b_sum (by decide +kernel) (pa_cons (pv 1) pa_nil)) (pa_cons pe_int pa_nil)))))))), ?_⟩
    refine ⟨_, rfl, _, rfl, a, _, rfl, hS, fun q hq => ?_⟩
    obtain ⟨ms, e1, e2⟩ := cut_ints ns none (some 63)
    rw [e1]
    have s1 : Same H (upd H q (.lst (ms.map V.int))) := sameAdd hq
    have q1 : (upd H q (.lst (ms.map V.int))) q = some (.lst (ms.map V.int)) := upd_same
    generalize upd H q (.lst (ms.map V.int)) = H1 at s1 q1 ⊢
    refine ⟨q, rfl, ⟨_, SqL.of q1⟩, fun D hD => lc_list (K := K) (a := q) (xs := ms.map V.int) (fun i H3 => Same H1 H3 ∧ ∃ cs : List Int, cs.length = i ∧ H3 D = some (.lst (cs.map V.int))) ⟨sameAdd hD, [], rfl, upd_same⟩ (fun i H3 _ h => SqL.of (h.1 _ _ q1)) ?_ ?_⟩
    · rintro i x H3 hx ⟨s3, cs, rfl, hD3⟩
      have lx := (List.getElem?_eq_some_iff.mp hx).1
      rw [List.length_map] at lx
      obtain ⟨n, _, rfl⟩ := List.mem_map.mp (List.mem_of_getElem? hx)
      refine ⟨rfl, _, rfl, _, _, rfl, rfl, _, rfl, ite2 (fun hc => ?_) (fun hc => ?_)⟩
      · refine ⟨_, rfl, _, _, rfl, rfl, .inl ⟨by decide, by decide⟩, _, hD3, by rw [List.length_map]; exact small1000 (by omega), sameOut s3 hD, cs ++ [2 * n], by rw [List.length_append]; rfl, by rw [upd_same, List.map_append]; rfl⟩
      · refine ⟨_, rfl, _, rfl, _, _, rfl, rfl, .inl ⟨by decide, by decide⟩, _, _, rfl, rfl, _, hD3, by rw [List.length_map]; exact small1000 (by omega), sameOut s3 hD, cs ++ [-2 * n - 1], by rw [List.length_append]; rfl, by rw [upd_same, List.map_append]; rfl⟩
    · rintro H3 ⟨s3, cs, lc, hD3⟩
      rw [List.length_map] at lc
      dsimp only [gName, List.set]
      refine ⟨_, rfl, D, rfl, ⟨_, SqL.of hD3⟩, fun L hL => lc_list (K := K) (a := D) (xs := cs.map V.int) (fun i H5 => Same H3 H5 ∧ ∃ gs : List Int, gs.length ≤ i ∧ H5 L = some (.lst (gs.map V.int))) ⟨sameAdd hL, [], Nat.le_refl _, upd_same⟩ (fun i H5 _ h => SqL.of (h.1 _ _ hD3)) ?_ ?_⟩
      · rintro i x H5 hx ⟨s5, gs, lg, hL5⟩
        have lx := (List.getElem?_eq_some_iff.mp hx).1
        rw [List.length_map] at lx
        obtain ⟨n, _, rfl⟩ := List.mem_map.mp (List.mem_of_getElem? hx)
        refine ⟨rfl, _, rfl, _, _, rfl, rfl, ⟨by decide, by decide, by decide⟩, _, _, rfl, rfl, _, rfl, ite2 (fun hc => ?_) (fun hc => ?_)⟩
        · exact ⟨_, rfl, _, hL5, by rw [List.length_map]; exact small1000 (by omega), sameOut s5 hL, gs ++ [n], by rw [List.length_append, List.length_singleton]; omega, by rw [upd_same, List.map_append]; rfl⟩
        · exact ⟨s5, gs, by omega, hL5⟩
      · rintro H5 ⟨s5, gs, lg, hL5⟩
        rw [List.length_map] at lg
        have hD5 := s5 _ _ hD3
        refine ⟨_, rfl, _, rfl, D, cs.map V.int, rfl, .inl (SqL.of hD5), _, _, rfl, rfl, by show 1 ≤ sizeLine; decide, fun q2 hq2 => ?_⟩
        rw [List.length_map]
        dsimp only
        generalize (cs.length : Int) + 422 = last
        have s6 := sameAdd (o := .lst [V.int last]) hq2
        have hD6 := s6 _ _ hD5
        have hL6 := s6 _ _ hL5
        have q26 : (upd H5 q2 (.lst [V.int last])) q2 = some (.lst [V.int last]) := upd_same
        generalize upd H5 q2 (.lst [V.int last]) = H6 at s6 hD6 hL6 q26 ⊢
        refine ⟨D, q2, _, _, rfl, rfl, hD6, q26, by rw [List.length_map, List.length_singleton]; exact small1000 (by omega), fun A hA => ?_⟩
        have s7 := sameAdd (o := .lst (cs.map V.int ++ [V.int last])) hA
        have hD7 := s7 _ _ hD6
        have hL7 := s7 _ _ hL6
        have hA7 : (upd H6 A (.lst (cs.map V.int ++ [V.int last]))) A = some (.lst ((cs ++ [last]).map V.int)) := by rw [upd_same, List.map_append]; rfl
        have nLA : L ≠ A := fun e => by rw [e] at hL6; rw [hL6] at hA; cases hA
        generalize upd H6 A (.lst (cs.map V.int ++ [V.int last])) = H7 at s7 hD7 hL7 hA7 ⊢
        refine ⟨_, rfl, D, cs, rfl, SqL.of hD7, by show 4 ≤ sizeLine; decide, fun p hp => ?_⟩
        have nLp : L ≠ p := fun e => by rw [e, hp] at hL7; cases hL7
        have nAp : A ≠ p := fun e => by rw [e, hp] at hA7; cases hA7
        refine k p L (fun b => if b = A then some (.lst ((cs ++ [last]).map V.int)) else none) _ ⟨fun b o e => ?_, ?_, ?_, ⟨⟨A, cs ++ [last], cs.sum⟩, 0, ⟨?_, ?_, ?_⟩, Int.le_refl 0, upd_same⟩, ⟨gs, by omega, by rw [upd_ne nLp]; exact hL7⟩⟩
        · split at e
          · rename_i eb
            rw [eb, upd_ne nAp, hA7]
            exact e
          · cases e
        · exact if_neg fun e => nAp e.symm
        · exact if_neg fun e => nLA e
        · exact if_pos rfl
        · show 0 < (cs ++ [last]).length
          rw [List.length_append]
          exact Nat.lt_of_lt_of_le Nat.zero_lt_one (Nat.le_add_left _ _)
        · show (cs ++ [last]).length ≤ 64
          rw [List.length_append, List.length_singleton]
          omega
end
end L2.Hx

/-! Judgements of what the law draws. -/
namespace L2.Hx
open PySem PySem.Spec PyProof.Rows
theorem seq_by {a b : TS} {D : Ends} {σ : St} {H : Hp} (J : St → Hp → Prop) (h1 : (∀ σ2 H2, J σ2 H2 → b D σ2 H2) → a { D with nx := b D } σ H) (h2 : ∀ σ2 H2, J σ2 H2 → b D σ2 H2) : tSeq a b D σ H := h1 h2
theorem if_yes {c : Bool} {A B : Prop} (h : c = true) (a : A) : if c = true then A else B := by
  rw [h]
  exact a
def LsQ (φ : PyData → Prop) (lo m : Nat) (d : PyData) : Prop := ∃ ds, d = .list ds ∧ lo ≤ ds.length ∧ ds.length ≤ m ∧ ∀ x ∈ ds, φ x
def TpQ (φ : PyData → Prop) (m : Nat) (d : PyData) : Prop := ∃ ds, d = .tuple ds ∧ ds.length ≤ m ∧ ∀ x ∈ ds, φ x
abbrev Tm : PyData → Prop := Okd 0 90
/-- a def of the stock and of data, that tells data -/
def spG (K : PySem.W.Frag) (Ψ : List PyData → Prop) (φ : PyData → Prop) : Sp := fun vs H Q _ => ∃ (p l : Addr) (G : Hp) (us : List V) (ds : List PyData), vs = .ref p :: us ∧ Wd p l G H ∧ DaAll K G us ds ∧ Ψ ds ∧ ∀ v d G' H', Ext p l G H G' H' → Da K G' v d → φ d → Q v H'
/-- .. without the stock -/
def spV (K : PySem.W.Frag) (Ψ : List PyData → Prop) (φ : PyData → Prop) : Sp := fun vs H Q _ => ∃ (p l : Addr) (G : Hp) (ds : List PyData), Wd p l G H ∧ DaAll K G vs ds ∧ Ψ ds ∧ ∀ v d G' H', Ext p l G H G' H' → Da K G' v d → φ d → Q v H'
section
variable {K : PySem.W.Frag} {p l : Addr} {σ : St} {G : Hp} {φ ψ χ : PyData → Prop} {t ta tb te : TE} {tr : TA} {Φ Ψ : List PyData → Prop} {m m2 lo lo2 : Nat}
theorem td_call {i : Nat} (h : TDs K p l σ G tr Φ) (hΨ : ∀ ds, Φ ds → Ψ ds) (hd : σ[i]? = some (some (.ref p))) : TD K p l σ G (tCall (spG K Ψ φ) [] E0 (tCons (tVar i) tr)) φ := fun G1 H Q W s k =>
  ⟨_, hd, h G1 H _ W s fun vs ds G2 H2 e da f => ⟨p, l, G2, vs, ds, by rw [List.append_nil], e.w, da, hΨ ds f, fun v d G3 H3 e3 dd ff => k v d G3 H3 (e.trans W e3) dd ff⟩⟩
theorem td_callV (h : TDs K p l σ G tr Φ) (hΨ : ∀ ds, Φ ds → Ψ ds) : TD K p l σ G (tCall (spV K Ψ φ) [] E0 tr) φ := fun G1 H Q W s k =>
  h G1 H _ W s fun vs ds G2 H2 e da f => ⟨p, l, G2, ds, e.w, by rw [List.append_nil]; exact da, hΨ ds f, fun v d G3 H3 e3 dd ff => k v d G3 H3 (e.trans W e3) dd ff⟩
/-- the very data of a name -/
theorem td_is {i : Nat} {v : V} {d : PyData} (hi : σ[i]? = some (some v)) (hd : Da K G v d) : TD K p l σ G (tVar i) (fun x => x = d) := td_var hi hd rfl
theorem td_at {i : Nat} {c : Nat} {v : V} {d : PyData} {ds : List PyData} (hi : σ[i]? = some (some v)) (hv : Da K G v (.tuple ds)) (hc : ds[c]? = some d) (hf : φ d) : TD K p l σ G (tOp (rIxT K) (tVar i) (tC (.int (c : Int)))) φ := fun G1 H Q W s k => by
  obtain ⟨a, xs, rfl, sq, da⟩ := hv.tupI
  have hl := da.length
  have lt := (List.getElem?_eq_some_iff.mp hc).1
  have hx := List.getElem?_eq_getElem (show c < xs.length by omega)
  refine ⟨_, hi, a, xs, (c : Int), xs[c]'(by omega), rfl, rfl, sameT (s.trans W.same) sq, ?_, ?_⟩
  rotate_left 1
  · obtain ⟨d2, e2, q2⟩ := da.get hx
    rw [hc] at e2
    rw [← Option.some.inj e2] at q2
    exact k _ d _ _ (Ext.refl W) (q2.mono s) hf
  unfold atI ixN
  rw [if_pos (by omega), if_pos (by omega)]
  exact hx
theorem td_catQ (ha : TD K p l σ G ta (LsQ φ lo m)) (hb : TD K p l σ G tb (LsQ φ lo2 m2)) (hz : m + m2 ≤ sizeLine := by decide) : TD K p l σ G (tOp rCat ta tb) (LsQ φ (lo + lo2) (m + m2)) := fun G1 H Q W s k =>
  ha G1 H _ W s fun v d G2 H2 e da f => hb G2 H2 _ e.w (s.trans e.sub) fun u d2 G3 H3 e3 da3 f3 => by
    obtain ⟨ds, rfl, z1, l1, o1⟩ := f
    obtain ⟨es, rfl, z2, l2, o2⟩ := f3
    have E := e.trans W e3
    cases da with
    | @lst a xs _ t1 a1 =>
      cases da3 with
      | @lst b ys _ t2 a2 =>
        refine ⟨a, b, xs, ys, rfl, rfl, (e3.sub.trans e3.w.same) _ _ t1, e3.w.same _ _ t2, by rw [a1.length, a2.length]; omega, fun c hc => ?_⟩
        have e4 := e3.w.put (o := .lst (xs ++ ys)) hc
        refine k _ _ _ _ (E.trans W e4) (.lst upd_same ((a1.mono (e3.sub.trans e4.sub)).append (a2.mono e4.sub))) ⟨ds ++ es, rfl, by rw [List.length_append]; omega, by rw [List.length_append]; omega, fun x mx => ?_⟩
        rcases List.mem_append.mp mx with mx | mx
        · exact o1 x mx
        · exact o2 x mx
/-- list(t), t a tuple or a list -/
abbrev rLstOf (K : PySem.W.Frag) : List V → Hp → VK → Prop := fun xs H Q => ∃ p ys, xs = [.ref p] ∧ (SqL K H p ys ∨ SqT K H p ys) ∧ ∀ l, H l = none → Q (.ref l) (upd H l (.lst ys))
abbrev rTpOf (K : PySem.W.Frag) : List V → Hp → VK → Prop := fun xs H Q => ∃ p ys, xs = [.ref p] ∧ ((SqL K H p ys ∧ ∀ l, H l = none → Q (.ref l) (upd H l (.tup ys))) ∨ (SqT K H p ys ∧ Q (.ref p) H))
theorem td_listT (ha : TD K p l σ G ta (TpQ φ m)) : TD K p l σ G (tCB (rLstOf K) (tCons ta tNil)) (LsQ φ 0 m) := fun G1 H Q W s k =>
  ha G1 H _ W s fun v d G2 H2 e da f => by
    obtain ⟨ds, rfl, l1, o1⟩ := f
    obtain ⟨a, xs, rfl, sq, dx⟩ := da.tupI
    refine ⟨a, xs, rfl, .inr (sameT e.w.same sq), fun q hq => ?_⟩
    have e4 := e.w.put (o := .lst xs) hq
    exact k _ _ _ _ (e.trans W e4) (.lst upd_same (dx.mono e4.sub)) ⟨ds, rfl, Nat.zero_le _, l1, o1⟩
theorem td_listL (ha : TD K p l σ G ta (LsQ φ lo m)) : TD K p l σ G (tCB (rLstOf K) (tCons ta tNil)) (LsQ φ lo m) := fun G1 H Q W s k =>
  ha G1 H _ W s fun v d G2 H2 e da f => by
    obtain ⟨ds, rfl, z1, l1, o1⟩ := f
    cases da with
    | @lst a xs _ t1 a1 =>
      refine ⟨a, xs, rfl, .inl (SqL.of (e.w.same _ _ t1)), fun q hq => ?_⟩
      have e4 := e.w.put (o := .lst xs) hq
      exact k _ _ _ _ (e.trans W e4) (.lst upd_same (a1.mono e4.sub)) ⟨ds, rfl, z1, l1, o1⟩
theorem td_tupL (ha : TD K p l σ G ta (LsQ φ lo m)) : TD K p l σ G (tCB (rTpOf K) (tCons ta tNil)) (TpQ φ m) := fun G1 H Q W s k =>
  ha G1 H _ W s fun v d G2 H2 e da f => by
    obtain ⟨ds, rfl, z1, l1, o1⟩ := f
    cases da with
    | @lst a xs _ t1 a1 =>
      refine ⟨a, xs, rfl, .inl ⟨SqL.of (e.w.same _ _ t1), fun q hq => ?_⟩⟩
      have e4 := e.w.put (o := .tup xs) hq
      exact k _ _ _ _ (e.trans W e4) (.tup (SqT.of upd_same) (a1.mono e4.sub)) ⟨ds, rfl, l1, o1⟩
theorem td_lstQ (h : TDs K p l σ G tr (AllF φ m)) (hz : m ≤ sizeLine := by decide) : TD K p l σ G (tLst tr) (LsQ φ m m) := TD.imp (td_lstP h fun ds f => by rw [f.1]; exact hz) fun d ⟨ds, e, l1, h1⟩ => ⟨ds, e, by omega, by omega, h1⟩
theorem LsQ.P {d : PyData} (h : LsQ φ lo m d) (hlo : 0 < lo := by decide) (hm : m < 1000000 := by decide) : LsP φ d := by
  obtain ⟨ds, e, z1, l1, o1⟩ := h
  exact ⟨ds, e, by omega, by omega, o1⟩
theorem td_pickQ {i : Nat} (h : TD K p l σ G ta (LsQ ψ lo m)) (hd : σ[i]? = some (some (.ref p))) (hlo : 0 < lo := by decide) (hm : m < 1000000 := by decide) : TD K p l σ G (tCall spPick [] E0 (tCons (tVar i) (tCons ta tNil))) ψ := td_pick (h.imp fun d f => f.P hlo hm) hd
theorem td_tupQ (h : TDs K p l σ G tr (AllF φ m)) (hz : m ≤ sizeLine := by decide) : TD K p l σ G (tTup tr) (TpQ φ m) := TD.imp (td_tupP h fun ds f => by rw [f.1]; exact hz) fun d ⟨ds, e, l1, h1⟩ => ⟨ds, e, by omega, h1⟩
theorem LsQ.imp {d : PyData} (h : LsQ φ lo m d) (hi : ∀ x, φ x → ψ x) (hl : lo2 ≤ lo := by decide) (hm : m ≤ m2 := by decide) : LsQ ψ lo2 m2 d := by
  obtain ⟨ds, e, z1, l1, o1⟩ := h
  exact ⟨ds, e, by omega, by omega, fun x mx => hi x (o1 x mx)⟩
theorem TpQ.imp {d : PyData} (h : TpQ φ m d) (hi : ∀ x, φ x → ψ x) (hm : m ≤ m2 := by decide) : TpQ ψ m2 d := by
  obtain ⟨ds, e, l1, o1⟩ := h
  exact ⟨ds, e, by omega, fun x mx => hi x (o1 x mx)⟩
theorem TpQ.okd {k n N : Nat} {d : PyData} (h : TpQ (Okd k n) m d) (hN : (n + 2) * m + 3 ≤ N := by decide) : Okd (k + 1) N d := by
  obtain ⟨ds, rfl, l1, o1⟩ := h
  exact Okd.tup o1 l1 hN
theorem tw_draw {i : Nat} {c : Int} (hd : σ[i]? = some (some (.ref p))) (h0 : 1 ≤ c := by decide) (h1 : c < 1000 := by decide) : TW p l σ G (iRng1 (tCons (tCall spDraw [] E0 (tCons (tVar i) (tCons (tC (.int c)) tNil))) tNil)) (fun N => (N : Int) < c) := fun G1 H R W s k =>
  ⟨_, hd, p, l, G1, c, rfl, by omega, by omega, W, fun r H1 r0 r1 e => ⟨r, rfl, by omega, by omega, k _ _ _ (by omega) e⟩⟩
theorem tw_drawv {i j : Nat} {c : Int} (hd : σ[i]? = some (some (.ref p))) (hj : σ[j]? = some (some (.int c))) (h0 : 1 ≤ c) (h1 : c < 1000) : TW p l σ G (iRng1 (tCons (tCall spDraw [] E0 (tCons (tVar i) (tCons (tVar j) tNil))) tNil)) (fun N => (N : Int) < c) := fun G1 H R W s k =>
  ⟨_, hd, _, hj, p, l, G1, c, rfl, by omega, by omega, W, fun r H1 r0 r1 e => ⟨r, rfl, by omega, by omega, k _ _ _ (by omega) e⟩⟩
theorem tw_1drawv {i j : Nat} {c : Int} (hd : σ[i]? = some (some (.ref p))) (hj : σ[j]? = some (some (.int c))) (h0 : 1 ≤ c) (h1 : c < 1000) : TW p l σ G (iRng1 (tCons (tOp (rI0 fun i j => .int (i + j)) (tC (.int 1)) (tCall spDraw [] E0 (tCons (tVar i) (tCons (tVar j) tNil)))) tNil)) (fun N => (N : Int) ≤ c) := fun G1 H R W s k =>
  ⟨_, hd, _, hj, p, l, G1, c, rfl, by omega, by omega, W, fun r H1 r0 r1 e => ⟨_, _, rfl, rfl, _, rfl, by omega, by omega, k _ _ _ (by omega) e⟩⟩
theorem td_slL {tl th : TO} (ha : TD K p l σ G ta (LsQ φ lo m)) (hl : TPt σ tl) (hh : TPt σ th) : TD K p l σ G (tSl (rSlL K) ta tl th) (LsQ φ 0 m) := fun G1 H Q W s k =>
  ha G1 H _ W s fun v d G2 H2 e da f => hl H2 _ fun lo => hh H2 _ fun hi => by
    obtain ⟨ds, rfl, z1, l1, o1⟩ := f
    cases da with
    | @lst a xs _ t1 a1 =>
      refine ⟨a, xs, rfl, SqL.of (e.w.same _ _ t1), fun c hc => ?_⟩
      have e4 := e.w.put (o := .lst (cutV xs lo hi)) hc
      refine k _ _ _ _ (e.trans W e4) (.lst upd_same (((a1.drop _).take _).mono e4.sub)) ⟨_, rfl, Nat.zero_le _, ?_, fun x mx => o1 x (List.mem_of_mem_drop (List.mem_of_mem_take mx))⟩
      rw [List.length_take, List.length_drop]
      omega
theorem td_ixL {ti : TE} {c : Int} (ha : TD K p l σ G ta (LsQ φ m m)) (hi : ∀ (H : Hp) (Q : VK), Q (.int c) H → ti σ H Q) (c0 : 0 ≤ c) (c1 : c < m) : TD K p l σ G (tOp (rIxL K) ta ti) φ := fun G1 H Q W s k =>
  ha G1 H _ W s fun v d G2 H2 e da f => by
    obtain ⟨ds, rfl, z1, l1, o1⟩ := f
    cases da with
    | @lst a xs _ t1 a1 =>
      have hl := a1.length
      obtain ⟨x, hx, mx⟩ := atI_nat2 (xs := xs) c0 (by omega)
      obtain ⟨d, md, dd⟩ := a1.mem mx
      exact hi _ _ ⟨a, xs, c, x, rfl, rfl, SqL.of (e.w.same _ _ t1), hx, k x d _ _ e dd (o1 d md)⟩
/-- for .. in range(..): xs.append(e), xs one's own -/
theorem for_app {wi : TI} {i j M : Nat} {ν : Nat → Prop} {D : Ends} {H : Hp} {r : Addr} (hw : TW p l σ G wi ν) (hM : ∀ N, ν N → N ≤ M) (hM2 : M < 1000) (W : Wd p l G H) (hj : j < σ.length) (hr : ∀ o, (σ.set j o)[i]? = some (some (.ref r))) (rp : r ≠ p) (rl : r ≠ l) (gr : G r = none) (hR : H r = some (.lst []))
    (he : ∀ o, TD K p l (σ.set j o) G te φ)
    (k : ∀ (o : Option V) vs ds G2 H2, Wd p l G2 H2 → Same G G2 → G2 r = none → (∀ b o', b ≠ p → b ≠ l → b ≠ r → H b = some o' → H2 b = some o') → (∀ b o', H b = some o' → G b = none → G2 b = none) → H2 r = some (.lst vs) → DaAll K G2 vs ds → ν ds.length → (∀ x ∈ ds, φ x) → D.nx (σ.set j o) H2) :
    tFor wi (gName j) (tDrop (tBM K "list" rAppend (tVar i) (tCons te tNil))) D σ H :=
  hw G H _ W (Same.refl G) fun N G1 H1 hN e1 => by
    have hMN := hM N hN
    refine for_range (lo := 0) (n := N) (fun q σ2 H3 => ∃ (o : Option V) (G3 : Hp) (vs : List V) (ds : List PyData), σ2 = σ.set j o ∧ Wd p l G3 H3 ∧ Same G1 G3 ∧ G3 r = none ∧ H3 r = some (.lst vs) ∧ DaAll K G3 vs ds ∧ ds.length = q ∧ (∀ x ∈ ds, φ x) ∧
        (∀ b o', b ≠ p → b ≠ l → b ≠ r → H1 b = some o' → H3 b = some o') ∧ (∀ b o', H1 b = some o' → G1 b = none → G3 b = none))
      ⟨σ[j], G1, [], [], (List.set_getElem_self _).symm, e1.w, Same.refl _, e1.new _ _ hR gr, e1.keep _ _ rp rl hR, .nil, rfl, fun x m => absurd m List.not_mem_nil, fun b o' _ _ _ q => q, fun b o' _ g => g⟩ ?_ ?_
    · rintro q σ2 H3 hq ⟨o, G3, vs, ds, rfl, w3, s3, g3, r3, da3, l3, f3, k3, n3⟩
      show (tBM K "list" rAppend (tVar i) (tCons te tNil)) ((σ.set j o).set j (some (.int (0 + (q : Int))))) H3 _
      rw [List.set_set]
      refine ⟨_, hr _, .inl ⟨rfl, _, SqL.of r3⟩, ?_⟩
      refine he _ G3 H3 _ w3 (e1.sub.trans s3) fun v d G4 H4 e4 da4 f4 => ?_
      have r4 := e4.keep _ _ rp rl r3
      have g4 := e4.new _ _ r3 g3
      refine ⟨r, vs, v, rfl, rfl, r4, by rw [da3.length, l3]; have : (1000 : Nat) ≤ sizeLine := by decide
                                         omega, ?_⟩
      refine ⟨_, G4, vs ++ [v], ds ++ [d], rfl, e4.w.own rp rl g4, s3.trans e4.sub, g4, upd_same, (da3.mono e4.sub).append (.cons da4 .nil), by rw [List.length_append, l3]; rfl, fun x m => ?_, fun b o' n1 n2 n4 q => ?_, fun b o' q g => ?_⟩
      · rcases List.mem_append.mp m with m | m
        · exact f3 x m
        · rw [List.mem_singleton.mp m]
          exact f4
      · rw [upd_ne n4]
        exact e4.keep _ _ n1 n2 (k3 b o' n1 n2 n4 q)
      · by_cases b1 : b = p
        · subst b1
          exact e4.w.gp
        · by_cases b2 : b = l
          · subst b2
            exact e4.w.gl
          · by_cases b3 : b = r
            · subst b3
              exact g4
            · exact e4.new b o' (k3 b o' b1 b2 b3 q) (n3 b o' q g)
    · rintro σ2 H3 ⟨o, G3, vs, ds, rfl, w3, s3, g3, r3, da3, l3, f3, k3, n3⟩
      exact k o vs ds G3 H3 w3 (e1.sub.trans s3) g3 (fun b o' n1 n2 n4 q => k3 b o' n1 n2 n4 (e1.keep _ _ n1 n2 q)) (fun b o' q g => by
        by_cases b1 : b = p
        · subst b1
          exact w3.gp
        · by_cases b2 : b = l
          · subst b2
            exact w3.gl
          · exact n3 b o' (e1.keep _ _ b1 b2 q) (e1.new _ _ q g)) r3 da3 (by rw [l3]; exact hN) f3
theorem Ext.old {H G1 H1 : Hp} {r : Addr} (e : Ext p l G H G1 H1) (h : H1 r = none) : H r = none := by
  cases q : H r with
  | none => rfl
  | some o =>
    have := e.keep r o (e.w.np h) (e.w.nl h) q
    rw [h] at this
    cases this
theorem ext_app {H G1 H1 G2 H2 : Hp} {r : Addr} (E : Ext p l G H G1 H1) (h0 : H r = none) (w2 : Wd p l G2 H2) (s : Same G1 G2) (k : ∀ b o', b ≠ p → b ≠ l → b ≠ r → H1 b = some o' → H2 b = some o') (n : ∀ b o', H1 b = some o' → G1 b = none → G2 b = none) : Ext p l G H G2 H2 :=
  ⟨w2, E.sub.trans s, fun b o n1 n2 q => k b o n1 n2 (ne_of_none q h0) (E.keep b o n1 n2 q), fun b o q g => by
    by_cases b1 : b = p
    · subst b1
      exact w2.gp
    · by_cases b2 : b = l
      · subst b2
        exact w2.gl
      · exact n b o (E.keep b o b1 b2 q) (E.new b o q g)⟩
end
end L2.Hx

/-! Clauses, sayings, shapes, tests, statements in which none stands. -/
namespace L2.Hx
open PySem PySem.Spec PyProof.Rows
def LsA (d : PyData) : Prop := LsQ Tm 0 30 d
def spClause (K : PySem.W.Frag) : Sp := spG K (fun ds => ∃ nm, ds = [nm, .int 3] ∧ LsA nm) (Okd 3 1137)
def spSaying (K : PySem.W.Frag) : Sp := spG K (fun ds => ∃ (nm : PyData) (c : Int), ds = [nm, .int c] ∧ LsA nm ∧ 1 ≤ c ∧ c ≤ 2) (Okd 4 2281)
section
variable {P : Program} {w : World} {K : PySem.W.Frag} {mg : Str → Option Value} {base : Heap} {p l : Addr} {σ : St} {G : Hp} {φ ψ : PyData → Prop} {t te : TE} {tr : TA} {m : Nat}
theorem td_strT {x : Str} (h : okB (.str x) = true := by decide +kernel) (hn : siz (.str x) ≤ 90 := by decide +kernel) : TD K p l σ G (tC (.str x)) Tm := td_str h hn
theorem td_row {i : Nat} {tl : TE} {tv : TE} {lo : Nat} {m m2 : Nat} (hd : σ[i]? = some (some (.ref p))) (h1 : TD K p l σ G tl (LsQ Tm lo m)) (h2 : TD K p l σ G tv (LsQ Tm 1 m2)) (hlo : 0 < lo := by decide) (hm : m < 1000000 := by decide) (hm2 : m2 < 1000000 := by decide) :
    TD K p l σ G (tTup (tCons (tCall spPick [] E0 (tCons (tVar i) (tCons tl tNil))) (tCons (tCall spPick [] E0 (tCons (tVar i) (tCons tv tNil))) (tCons (tCall spPick [] E0 (tCons (tVar i) (tCons tv tNil))) tNil)))) (Okd 1 279) :=
  (td_tupQ (tds_consF (td_pickQ h1 hd hlo hm) (tds_consF (td_pickQ h2 hd (by decide) hm2) (tds_consF (td_pickQ h2 hd (by decide) hm2) tds_nilF)))).imp fun d f => f.okd
theorem D_l_clause (T : Txt K mg) : Df P w K mg base 3 "_law_clause" ["stock", "names", "many"] (spClause K) := by
  have D_l_draw := D_draw (P := P) (w := w) (base := base) T
  have D_l_pick := D_pick (P := P) (w := w) (base := base) T
  obtain ⟨f, fd, S⟩ := T.d_l_clause
  refine Df.mk' (k := 2) S sc_l_clause (fun vs H Q E h => ?_) (fun cdv A outer s H vs Q E hgd hr h => ?_)
  · obtain ⟨p, l, G, us, ds, rfl, _, da, ⟨nm, rfl, _⟩, _⟩ := h
    rw [List.length_cons, da.length]
    rfl
  · obtain ⟨p, l, G, us, ds, rfl, W, da, ⟨nm, rfl, hnm⟩, k⟩ := h
    cases da with
    | @cons v _ _ _ d1 t =>
    cases t with
    | cons d2 t =>
    cases t
    cases d2
    have big : (2000 : Nat) ≤ sizeLine := by decide
    refine ⟨_, (pss_cons (ps_par3 (i := 3) (j := 4) (l := 5) (by rfl) sc_l_clause.nd rfl rfl rfl (by decide) (by decide) (by decide) rfl rfl rfl (pa_cons (pe_op op_cat (pe_callTy call_list_of (by rfl) T.b_list (by decide +kernel) (pa_cons (pv 1) pa_nil)) (pe_lst (pa_cons pe_str pa_nil))) (pa_cons (pe_lst pa_nil) (pa_cons (pe_lst pa_nil) pa_nil))) (by rfl))
      (pss_cons (ps_for PassesOwn.never rfl (pi_range1 rfl T.b_range (pa_cons (pe_d D_l_draw hgd hr (pa_cons (pv 0) (pa_cons (pv 2) pa_nil))) pa_nil)) (pg_name (i := 6) sc_l_clause.nd rfl (.inl rfl))
      (pss_one (ps_expr (pe_bm PySem.F.plainAttrs_list PySem.F.slot_list_append PySem.F.type_list_append mt_append (pv 4) (pa_cons (pe_tup (pa_cons (pe_d D_l_pick hgd hr (pa_cons (pv 0) (pa_cons (pe_lst (pa_cons pe_str (pa_cons pe_str (pa_cons pe_str pa_nil)))) pa_nil))) (pa_cons (pe_d D_l_pick hgd hr (pa_cons (pv 0) (pa_cons (pv 3) pa_nil))) (pa_cons (pe_d D_l_pick hgd hr (pa_cons (pv 0) (pa_cons (pv 3) pa_nil))) pa_nil)))) pa_nil)))))
      (pss_cons (ps_for PassesOwn.never rfl (pi_range1 rfl T.b_range (pa_cons (pe_d D_l_draw hgd hr (pa_cons (pv 0) (pa_cons (pv 2) pa_nil))) pa_nil)) (pg_name (i := 6) sc_l_clause.nd rfl (.inl rfl))
      (pss_one (ps_expr (pe_bm PySem.F.plainAttrs_list PySem.F.slot_list_append PySem.F.type_list_append mt_append (pv 5) (pa_cons (pe_tup (pa_cons (pe_d D_l_pick hgd hr (pa_cons (pv 0) (pa_cons (pe_lst (pa_cons pe_str (pa_cons pe_str (pa_cons pe_str pa_nil)))) pa_nil))) (pa_cons (pe_d D_l_pick hgd hr (pa_cons (pv 0) (pa_cons (pv 3) pa_nil))) (pa_cons (pe_d D_l_pick hgd hr (pa_cons (pv 0) (pa_cons (pv 3) pa_nil))) pa_nil)))) pa_nil)))))
      (pss_one (ps_ret (pe_tup (pa_cons (pe_callTy call_tuple_of (by rfl) T.b_tuple (by decide +kernel) (pa_cons (pv 4) pa_nil)) (pa_cons (pe_callTy call_tuple_of (by rfl) T.b_tuple (by decide +kernel) (pa_cons (pv 5) pa_nil)) pa_nil)))))))), ?_⟩
    refine TD.app (K := K) (p := p) (l := l) (G := G) (φ := LsQ Tm 1 31) (td_catQ (td_listL (td_var rfl d1 hnm)) (td_lstQ (tds_consF td_strT tds_nilF))) W fun tm dt G1 H1 e1 dtm ht => ?_
    refine ⟨Nat.zero_le _, fun r1 h1 => ⟨Nat.zero_le _, fun r2 h2 => ⟨_, _, _, rfl, ?_⟩⟩⟩
    have n12 : r1 ≠ r2 := fun e => by rw [e, upd_same] at h2; cases h2
    have x1 := e1.w.tmp (o := .lst []) h1
    have x2 := x1.w.tmp (o := .lst []) h2
    have r1p := e1.w.np h1
    have r1l := e1.w.nl h1
    have r2p := x1.w.np h2
    have r2l := x1.w.nl h2
    have g1 := e1.w.same.free h1
    have g2 := x1.w.same.free h2
    have E2 := (e1.trans W x1).trans W x2
    have hr1 : (upd (upd H1 r1 (.lst [])) r2 (.lst [])) r1 = some (.lst []) := by rw [upd_ne n12, upd_same]
    have hr2 : (upd (upd H1 r1 (.lst [])) r2 (.lst [])) r2 = some (.lst []) := upd_same
    generalize upd (upd H1 r1 (.lst [])) r2 (.lst []) = H2 at E2 hr1 hr2 ⊢
    dsimp only [gName, List.set]
    refine for_app (K := K) (p := p) (l := l) (G := G1) (φ := Okd 1 279) (i := 4) (j := 6) (M := 2) (r := r1) (tw_drawv (c := 3) rfl rfl (by decide) (by decide)) (fun N h => by omega) (by decide) E2.w (by show 6 < 7; decide) (fun o => rfl) r1p r1l g1 hr1 (fun o => td_row rfl (td_lstQ (tds_consF td_strT (tds_consF td_strT (tds_consF td_strT tds_nilF)))) (td_var (φ := LsQ Tm 1 31) rfl dtm ht)) fun o vs ds G3 H3 w3 s3 gr3 k3 n3 hR3 da3 l3 f3 => ?_
    dsimp only [List.set]
    have hr23 := k3 _ _ r2p r2l n12.symm hr2
    have g23 := n3 _ _ hr2 g2
    refine for_app (K := K) (p := p) (l := l) (G := G3) (φ := Okd 1 279) (i := 5) (j := 6) (M := 2) (r := r2) (tw_drawv (c := 3) rfl rfl (by decide) (by decide)) (fun N h => by omega) (by decide) w3 (by show 6 < 7; decide) (fun o => rfl) r2p r2l g23 hr23 (fun o => td_row rfl (td_lstQ (tds_consF td_strT (tds_consF td_strT (tds_consF td_strT tds_nilF)))) (td_var (φ := LsQ Tm 1 31) rfl (dtm.mono s3) ht)) fun o2 vs2 ds2 G4 H4 w4 s4 gr4 k4 n4 hR4 da4 l4 f4 => ?_
    dsimp only [List.set]
    have hR3' := k4 _ _ r1p r1l n12 hR3
    have gr34 := n4 _ _ hR3 gr3
    refine ⟨_, rfl, r1, vs, rfl, .inl ⟨SqL.of hR3', fun q1 hq1 => ?_⟩⟩
    have y1 := w4.put (o := .tup vs) hq1
    have hR4' : (upd H4 q1 (.tup vs)) r2 = some (.lst vs2) := sameAdd hq1 _ _ hR4
    refine ⟨_, rfl, r2, vs2, rfl, .inl ⟨SqL.of hR4', fun q2 hq2 => ?_⟩⟩
    have y2 := y1.w.put (o := .tup vs2) hq2
    refine ⟨by show 2 ≤ sizeLine; decide, fun q3 hq3 => ?_⟩
    have y3 := y2.w.put (o := .tup [V.ref q1, V.ref q2]) hq3
    have h10 : H r1 = none := e1.old h1
    have h20 : H r2 = none := (e1.trans W x1).old h2
    have E3 := ext_app E2 h10 w3 s3 k3 n3
    have E4 := ext_app E3 h20 w4 s4 k4 n4
    have E7 := ((E4.trans W y1).trans W y2).trans W y3
    refine k _ _ _ _ E7 (.tup (SqT.of upd_same) (.cons (.tup (SqT.of ((y2.sub.trans y3.sub) _ _ upd_same)) ((da3.mono s4).mono (y1.sub.trans (y2.sub.trans y3.sub)))) (.cons (.tup (SqT.of (y3.sub _ _ upd_same)) (da4.mono (y1.sub.trans (y2.sub.trans y3.sub)))) .nil))) ?_
    refine Okd.tup (k := 2) (n := 565) (m := 2) (fun d m => ?_) (Nat.le_refl 2)
    rcases List.mem_cons.mp m with rfl | m
    · exact Okd.tup f3 (m := 2) (by omega)
    · rw [List.mem_singleton.mp m]
      exact Okd.tup f4 (m := 2) (by omega)
theorem D_l_saying (T : Txt K mg) : Df P w K mg base 4 "_law_saying" ["stock", "names", "many"] (spSaying K) := by
  have D_l_draw := D_draw (P := P) (w := w) (base := base) T
  have D_l_clause := D_l_clause (P := P) (w := w) (base := base) T
  obtain ⟨f, fd, S⟩ := T.d_l_saying
  refine Df.mk' (k := 3) S sc_l_saying (fun vs H Q E h => ?_) (fun cdv A outer s H vs Q E hgd hr h => ?_)
  · obtain ⟨p, l, G, us, ds, rfl, _, da, ⟨nm, c, rfl, _⟩, _⟩ := h
    rw [List.length_cons, da.length]
    rfl
  · obtain ⟨p, l, G, us, ds, rfl, W, da, ⟨nm, c, rfl, hnm, c1, c2⟩, k⟩ := h
    cases da with
    | @cons v _ _ _ d1 t =>
    cases t with
    | cons d2 t =>
    cases t
    cases d2
    refine ⟨_, (pss_one (ps_ret (pe_callTy call_tuple_of (by rfl) T.b_tuple (by decide +kernel) (pa_cons (pe_lc (own := [("turn", 3)]) (g := gName 3) (tt := tYes) rfl sc_l_saying.nd (pi_range1 rfl T.b_range (pa_cons (pe_op op_add pe_int (pe_d D_l_draw hgd hr (pa_cons (pv 0) (pa_cons (pv 2) pa_nil)))) pa_nil)) (blkOk_by (own := [("turn", 3)]) (N := ["stock", "names", "many", "turn"]) (sc := defScope s_l_saying) (by decide +kernel)) (fun _ _ _ _ _ => pg_name (i := 3) sc_l_saying.nd rfl (.inl rfl)) (fun _ _ _ _ _ => pts_nil) (fun _ _ _ _ _ => (pe_d D_l_clause hgd hr (pa_cons (pv 0) (pa_cons (pv 1) (pa_cons pe_int pa_nil)))))) pa_nil)))), ?_⟩
    refine TD.ret (K := K) (p := p) (l := l) (G := G) (φ := Okd 4 2281) ?h W (fun v e G6 H6 x da f => k v e G6 H6 x da f)
    refine TD.imp (td_tupleN (td_lc (M := 2) (φ := Okd 3 1137) (tw_1drawv rfl rfl c1 (by omega)) (fun N hN => by omega) (by decide) fun i => td_call (tds_consP (td_is rfl d1) (tds_consP (TD.flat (φ := fun x => x = .int 3) (fun _ => .int 3) rfl) tds_nilP)) (fun ds h => ?_) rfl)) fun d ⟨ds, e, ln, o⟩ => ?_
    · obtain ⟨a, r, rfl, ea, b, r2, rfl, eb, rfl⟩ := h
      rw [ea, eb]
      exact ⟨nm, rfl, hnm⟩
    · rw [e]
      exact Okd.tup o (m := 2) (by omega)
end
end L2.Hx

/-! Shapes, tests, statements in which none stands. -/
namespace L2.Hx
open PySem PySem.Spec PyProof.Rows
theorem iteD {c A B : Prop} [Decidable c] (h1 : c → A) (h2 : ¬ c → B) : if decide c = true then A else B := iteB (fun h => h1 (of_decide_eq_true h)) fun h => h2 (of_decide_eq_false h)
theorem cut_strs (ns : List Str) (lo hi : Option Int) : ∃ ms : List Str, cutV (ns.map V.str) lo hi = ms.map V.str ∧ ms.Sublist ns := by
  refine ⟨(ns.drop (HT.sIx (ns.map V.str).length 0 lo)).take (HT.sIx (ns.map V.str).length (ns.map V.str).length hi - HT.sIx (ns.map V.str).length 0 lo), ?_, (List.take_sublist _ _).trans (List.drop_sublist _ _)⟩
  unfold cutV
  rw [List.map_take, List.map_drop]
structure OkT (k n : Nat) (ds : List PyData) : Prop where
  ok : okAll ds = true
  dp : PyData.depthAll ds ≤ k
  sz : sizAll ds ≤ n
theorem OkT.nil {k n : Nat} : OkT k n [] := ⟨rfl, by simp [PyData.depthAll], Nat.zero_le _⟩
theorem OkT.cons {k a b n : Nat} {d : PyData} {ds : List PyData} (h : Okd k a d) (t : OkT k b ds) (hn : a + 2 + b ≤ n := by decide) : OkT k n (d :: ds) := by
  refine ⟨by rw [okAll, h.ok, t.ok]; rfl, ?_, ?_⟩
  · have := h.dp
    have := t.dp
    simp only [PyData.depthAll]
    omega
  · have := h.sz
    have := t.sz
    rw [sizAll]
    omega
theorem OkT.tup {k n N : Nat} {ds : List PyData} (h : OkT k n ds) (hN : n + 3 ≤ N := by decide) : Okd (k + 1) N (.tuple ds) := by
  refine ⟨h.ok, ?_, ?_⟩
  · have := h.dp
    simp only [PyData.depth]
    omega
  · have := h.sz
    rw [siz]
    omega
/-- params, spares, wheres -/
def ShapeD (a b c : List PyData) (d : PyData) : Prop := d = .tuple [.tuple a, .tuple b, .tuple c] ∧ (a.length ≤ 8 ∧ ∀ x ∈ a, Tm x) ∧ (b.length ≤ 8 ∧ ∀ x ∈ b, Tm x) ∧ (c.length ≤ 8 ∧ ∀ x ∈ c, Tm x)
def pool8 : List Str := ["p", "q", "a", "bc", "x", "longname", "y", "zz"]
theorem pool8_ok : ∀ z ∈ pool8, Tm (.str z) := by
  have h : (pool8.all fun z => okB (.str z) && decide (siz (.str z) ≤ 90)) = true := by decide +kernel
  rw [List.all_eq_true] at h
  intro z m
  have q := h z m
  rw [Bool.and_eq_true] at q
  exact ⟨q.1, Nat.zero_le _, of_decide_eq_true q.2⟩
theorem pool8_shp : ∀ z ∈ pool8, Shp (.str z) := by
  have h : (pool8.all fun z => (PyData.str z).canLay0) = true := by decide +kernel
  rw [List.all_eq_true] at h
  exact fun z m => ⟨h z m, by simp [PyData.depth]⟩
def TmS (x : PyData) : Prop := Tm x ∧ ∃ z : Str, x = .str z
theorem strs_of : ∀ {a : List PyData}, (∀ x ∈ a, TmS x) → ∃ zs : List Str, a = zs.map .str
  | [], _ => ⟨[], rfl⟩
  | x :: a, h => by
    obtain ⟨zs, rfl⟩ := strs_of fun y m => h y (List.mem_cons_of_mem _ m)
    obtain ⟨z, rfl⟩ := (h x List.mem_cons_self).2
    exact ⟨z :: zs, rfl⟩
def spShape (K : PySem.W.Frag) : Sp := spG K (fun ds => ∃ c : Int, ds = [.int c] ∧ 1 ≤ c ∧ c ≤ 1000) (fun d => ∃ a b c, ShapeD a b c d ∧ ∃ zs : List Str, a ++ b ++ c = zs.map .str)
def spValues (K : PySem.W.Frag) : Sp := spV K (fun ds => ∃ (sh : PyData) (a b c : List PyData), ds = [sh] ∧ ShapeD a b c sh) (LsQ Tm 1 18)
def spTest (K : PySem.W.Frag) : Sp := spG K (fun ds => ∃ (sh : PyData) (a b c : List PyData), ds = [sh] ∧ ShapeD a b c sh) (Okd 1 279)
/-- functions that may be called: name, how many values, how many spares -/
def OthD (d : PyData) : Prop := ∃ os, d = .list os ∧ os.length ≤ 10 ∧ ∀ o ∈ os, Shp o ∧ ∃ (z : Str) (i j : Int), o = .tuple [.str z, .int i, .int j] ∧ Tm (.str z) ∧ 0 ≤ i ∧ i ≤ 8 ∧ 0 ≤ j ∧ j ≤ 8
/-- a statement in which none stands -/
structure SimOk (w : Str) (ds : List PyData) : Prop where
  nif : w ≠ "if"
  nwh : w ≠ "while"
  few : (w = "call" ∧ ds.length = 4) ∨ (w ≠ "call" ∧ ds.length ≤ 3)
  ok : Okd 2 3708 (.tuple (.str w :: ds))
def SimD (d : PyData) : Prop := ∃ w ds, d = .tuple (.str w :: ds) ∧ SimOk w ds
def spSimple (K : PySem.W.Frag) : Sp := spG K (fun ds => ∃ (sh ot : PyData) (a b c : List PyData), ds = [sh, ot] ∧ ShapeD a b c sh ∧ OthD ot) SimD
theorem DaAll.one {K : PySem.W.Frag} {G : Hp} {us : List V} {d : PyData} (h : DaAll K G us [d]) : ∃ v, us = [v] ∧ Da K G v d := by
  cases h with
  | cons a t =>
    cases t
    exact ⟨_, rfl, a⟩
theorem DaAll.two {K : PySem.W.Frag} {G : Hp} {us : List V} {d e : PyData} (h : DaAll K G us [d, e]) : ∃ v u, us = [v, u] ∧ Da K G v d ∧ Da K G u e := by
  cases h with
  | cons a t =>
    cases t with
    | cons b t =>
      cases t
      exact ⟨_, _, rfl, a, b⟩
theorem Da.intI {K : PySem.W.Frag} {G : Hp} {v : V} {i : Int} (h : Da K G v (.int i)) : v = .int i := by
  cases h
  rfl
section
variable {P : Program} {w : World} {K : PySem.W.Frag} {mg : Str → Option Value} {base : Heap} {p l : Addr} {σ : St} {G : Hp} {φ ψ : PyData → Prop} {t te : TE} {tr : TA} {m : Nat}
theorem td_part {i c : Nat} {v : V} {d : PyData} {a b e : List PyData} (hi : σ[i]? = some (some v)) (hv : Da K G v d) (hs : ShapeD a b e d) (hc : c < 3) : TD K p l σ G (tOp (rIxT K) (tVar i) (tC (.int (c : Int)))) (TpQ Tm 8) := by
  obtain ⟨rfl, h1, h2, h3⟩ := hs
  match c, hc with
  | 0, _ => exact td_at hi hv rfl ⟨a, rfl, h1.1, h1.2⟩
  | 1, _ => exact td_at hi hv rfl ⟨b, rfl, h2.1, h2.2⟩
  | 2, _ => exact td_at hi hv rfl ⟨e, rfl, h3.1, h3.2⟩
theorem D_l_values (T : Txt K mg) : Df P w K mg base 1 "_law_values" ["shape"] (spValues K) := by
  obtain ⟨f, fd, S⟩ := T.d_l_values
  refine Df.mk' (k := 0) S sc_l_values (fun vs H Q E h => ?_) (fun cdv A outer s H vs Q E hgd hr h => ?_)
  · obtain ⟨p, l, G, ds, _, da, ⟨sh, a, b, c, rfl, _⟩, _⟩ := h
    rw [da.length]
    rfl
  · obtain ⟨p, l, G, ds, W, da, ⟨sh, a, b, c, rfl, hs⟩, k⟩ := h
    obtain ⟨v, rfl, d1⟩ := da.one
    refine ⟨_, (pss_one (ps_ret (pe_op op_cat (pe_op op_cat (pe_lst (pa_cons pe_str (pa_cons pe_str pa_nil))) (pe_callTy call_list_of (by rfl) T.b_list (by decide +kernel) (pa_cons (pe_ix ix_tup (pv 0) pe_int (fun _ _ => rfl)) pa_nil))) (pe_callTy call_list_of (by rfl) T.b_list (by decide +kernel) (pa_cons (pe_ix ix_tup (pv 0) pe_int (fun _ _ => rfl)) pa_nil))))), ?_⟩
    refine TD.ret (K := K) (p := p) (l := l) (G := G) (φ := LsQ Tm 1 18) ?h W (fun v e G6 H6 x da f => k v e G6 H6 x da f)
    exact TD.imp (td_catQ (td_catQ (td_lstQ (tds_consF td_strT (tds_consF td_strT tds_nilF))) (td_listT (td_part (c := 0) rfl d1 hs (by decide)))) (td_listT (td_part (c := 2) rfl d1 hs (by decide)))) fun d f => f.imp fun x h => h
theorem D_l_test (T : Txt K mg) : Df P w K mg base 3 "_law_test" ["stock", "shape"] (spTest K) := by
  have D_l_draw := D_draw (P := P) (w := w) (base := base) T
  have D_l_pick := D_pick (P := P) (w := w) (base := base) T
  have D_l_values := D_l_values (P := P) (w := w) (base := base) T
  obtain ⟨f, fd, S⟩ := T.d_l_test
  refine Df.mk' (k := 2) S sc_l_test (fun vs H Q E h => ?_) (fun cdv A outer s H vs Q E hgd hr h => ?_)
  · obtain ⟨p, l, G, us, ds, rfl, _, da, ⟨sh, a, b, c, rfl, _⟩, _⟩ := h
    rw [List.length_cons, da.length]
    rfl
  · obtain ⟨p, l, G, us, ds, rfl, W, da, ⟨sh, a, b, c, rfl, hs⟩, k⟩ := h
    obtain ⟨v, rfl, d1⟩ := da.one
    refine ⟨_, (pss_cons (ps_par (i := 2) (j := 3) (by rfl) sc_l_test.nd rfl rfl (by decide) rfl rfl (pa_cons (pe_d D_l_values hgd hr (pa_cons (pv 1) pa_nil)) (pa_cons (pe_d D_l_draw hgd hr (pa_cons (pv 0) (pa_cons pe_int pa_nil))) pa_nil)) (by rfl))
      (pss_cons (ps_if (pt_cmpR op_eq (pv 3) pe_int (nomark _)) (pss_one (ps_ret (pe_tup (pa_cons pe_str pa_nil)))) pss_nil)
      (pss_one (ps_ret (pe_tup (pa_cons (pe_ix ix_list (pe_lst (pa_cons pe_str (pa_cons pe_str (pa_cons pe_str pa_nil)))) (pe_op op_sub (pv 3) pe_int) (fun _ _ => rfl)) (pa_cons (pe_d D_l_pick hgd hr (pa_cons (pv 0) (pa_cons (pv 2) pa_nil))) (pa_cons (pe_d D_l_pick hgd hr (pa_cons (pv 0) (pa_cons (pv 2) pa_nil))) pa_nil)))))))), ?_⟩
    refine TD.app (K := K) (p := p) (l := l) (G := G) (φ := LsQ Tm 1 18) (td_callV (tds_consP (td_is rfl d1) tds_nilP) (fun ds h => ?_)) W fun tv dv G1 H1 e1 dtv hv => ?_
    · obtain ⟨x, r, rfl, ex, rfl⟩ := h
      rw [ex]
      exact ⟨sh, a, b, c, rfl, hs⟩
    refine ⟨_, rfl, p, l, G1, 4, rfl, by decide, by decide, e1.w, fun d H2 d0 d1' e2 => ⟨_, _, rfl, ?_⟩⟩
    have E2 := e1.trans W e2
    dsimp only [gName, List.set]
    refine ⟨_, rfl, rfl, _, rfl, ?_⟩
    rw [show decide (V.int d = V.int 0) = decide (d = 0) from decide_eq_decide.mpr ⟨fun h => vint h, fun h => by rw [h]⟩]
    refine iteB (fun h0 => ?_) (fun h0 => ?_)
    · refine TD.app (K := K) (p := p) (l := l) (G := G1) (φ := Okd 1 279) ?h E2.w (fun v e G6 H6 x da f => k v e G6 H6 (E2.trans W x) da f)
      exact (td_tupQ (tds_consF td_strT tds_nilF)).imp fun d f => (f.okd (N := 95)).mono
    · have dn : d ≠ 0 := of_decide_eq_false h0
      dsimp only [tNext]
      refine TD.ret (K := K) (p := p) (l := l) (G := G1) (φ := Okd 1 279) ?h2 E2.w (fun v e G6 H6 x da f => k v e G6 H6 (E2.trans W x) da f)
      refine (td_tupQ (tds_consF (φ := Tm) (fun G3 H3 Q3 W3 s3 k3 => ?_) (tds_consF (td_pickQ (td_var (φ := LsQ Tm 1 18) rfl dtv hv) rfl) (tds_consF (td_pickQ (td_var (φ := LsQ Tm 1 18) rfl dtv hv) rfl) tds_nilF)))).imp fun d f => f.okd
      refine ⟨by show 3 ≤ sizeLine; decide, fun q hq => ?_⟩
      have e4 := W3.tmp (o := .lst [V.str "is", V.str "isnt", V.str "isnt"]) hq
      have c : d = 1 ∨ d = 2 ∨ d = 3 := by omega
      rcases c with c | c | c
      · rw [c]
        exact ⟨_, rfl, _, _, rfl, rfl, q, _, _, V.str "is", rfl, rfl, SqL.of upd_same, rfl, k3 _ _ _ _ e4 (.str _) ⟨by decide +kernel, Nat.zero_le _, by decide +kernel⟩⟩
      · rw [c]
        exact ⟨_, rfl, _, _, rfl, rfl, q, _, _, V.str "isnt", rfl, rfl, SqL.of upd_same, rfl, k3 _ _ _ _ e4 (.str _) ⟨by decide +kernel, Nat.zero_le _, by decide +kernel⟩⟩
      · rw [c]
        exact ⟨_, rfl, _, _, rfl, rfl, q, _, _, V.str "isnt", rfl, rfl, SqL.of upd_same, rfl, k3 _ _ _ _ e4 (.str _) ⟨by decide +kernel, Nat.zero_le _, by decide +kernel⟩⟩
theorem D_l_shape (T : Txt K mg) : Df P w K mg base 3 "_law_shape" ["stock", "most"] (spShape K) := by
  have D_l_draw := D_draw (P := P) (w := w) (base := base) T
  have D_l_shuffled := D_l_shuffled (P := P) (w := w) (base := base) T
  obtain ⟨f, fd, S⟩ := T.d_l_shape
  refine Df.mk' (k := 2) S sc_l_shape (fun vs H Q E h => ?_) (fun cdv A outer s H vs Q E hgd hr h => ?_)
  · obtain ⟨p, l, G, us, ds, rfl, _, da, ⟨c, rfl, _⟩, _⟩ := h
    rw [List.length_cons, da.length]
    rfl
  · obtain ⟨p, l, G, us, ds, rfl, W, da, ⟨c, rfl, c1, c2⟩, k⟩ := h
    obtain ⟨v, rfl, d1⟩ := da.one
    cases d1
    have big : (2000 : Nat) ≤ sizeLine := by decide
    refine ⟨_, (pss_cons (ps_set (i := 2) sc_l_shape.nd rfl (.inl rfl) (pe_slice sl_list (pe_d D_l_shuffled hgd hr (pa_cons (pv 0) (pa_cons (pe_lst (pa_cons pe_str (pa_cons pe_str (pa_cons pe_str (pa_cons pe_str (pa_cons pe_str (pa_cons pe_str (pa_cons pe_str (pa_cons pe_str pa_nil))))))))) pa_nil))) po_none (po_some (pe_op op_add pe_int (pe_d D_l_draw hgd hr (pa_cons (pv 0) (pa_cons (pv 1) pa_nil)))))))
      (pss_cons (ps_set (i := 3) sc_l_shape.nd rfl (.inl rfl) (pe_d D_l_draw hgd hr (pa_cons (pv 0) (pa_cons (pe_op op_add (pe_callB call_len_seq (by rfl) T.b_len (by decide +kernel) (pa_cons (pv 2) pa_nil)) pe_int) pa_nil))))
      (pss_cons (ps_set (i := 4) sc_l_shape.nd rfl (.inl rfl) (pe_op op_add (pv 3) (pe_d D_l_draw hgd hr (pa_cons (pv 0) (pa_cons (pe_callB (call_min2 rfl) (by rfl) T.b_min (by decide +kernel) (pa_cons pe_int (pa_cons (pe_op op_add (pe_op op_sub (pe_callB call_len_seq (by rfl) T.b_len (by decide +kernel) (pa_cons (pv 2) pa_nil)) (pv 3)) pe_int) pa_nil))) pa_nil)))))
      (pss_one (ps_ret (pe_tup (pa_cons (pe_callTy call_tuple_of (by rfl) T.b_tuple (by decide +kernel) (pa_cons (pe_slice sl_list (pv 2) po_none (po_some (pv 3))) pa_nil)) (pa_cons (pe_callTy call_tuple_of (by rfl) T.b_tuple (by decide +kernel) (pa_cons (pe_slice sl_list (pv 2) (po_some (pv 3)) (po_some (pv 4))) pa_nil)) (pa_cons (pe_callTy call_tuple_of (by rfl) T.b_tuple (by decide +kernel) (pa_cons (pe_slice sl_list (pv 2) (po_some (pv 4)) po_none) pa_nil)) pa_nil))))))))), ?_⟩
    refine ⟨_, rfl, by show 8 ≤ sizeLine; decide, fun L hL => ?_⟩
    have eL : [V.str "p", V.str "q", V.str "a", V.str "bc", V.str "x", V.str "longname", V.str "y", V.str "zz"] = pool8.map V.str := rfl
    rw [eL]
    have x3 := W.tmp (o := .lst (pool8.map V.str)) hL
    have L3 : (upd H L (.lst (pool8.map V.str))) L = some (.lst (pool8.map V.str)) := upd_same
    generalize upd H L (.lst (pool8.map V.str)) = H3 at x3 L3 ⊢
    refine ⟨p, l, G, L, pool8.map (fun n => (V.str n, PyData.str n)), rfl, x3.w, .inl (SqL.of (by rw [List.map_map]; exact L3)), by rw [List.length_map]; decide, fun z m => ?_, fun r ys G4 H4 e4 r4 r0 gr pm => ?_⟩
    · obtain ⟨n, mn, rfl⟩ := List.mem_map.mp m
      exact ⟨.str n, pool8_shp n mn⟩
    obtain ⟨ms, rfl, pms⟩ := perm_map_inv (f := fun n => (V.str n, PyData.str n)) pm _ rfl
    rw [List.map_map] at r4
    have r4 : H4 r = some (.lst (ms.map V.str)) := r4
    have nrp := x3.w.np r0
    have nrl := x3.w.nl r0
    have E4 := x3.trans W e4
    refine ⟨_, rfl, _, rfl, p, l, G4, c, rfl, by omega, by omega, E4.w, fun d H5 d0 d1 e5 => ⟨_, _, rfl, rfl, 1 + d, rfl, r, _, rfl, SqL.of (e5.keep _ _ nrp nrl r4), fun S1 hS1 => ?_⟩⟩
    obtain ⟨ns, ec, sub⟩ := cut_strs ms none (some (1 + d))
    rw [ec]
    have x6 := e5.w.tmp (o := .lst (ns.map V.str)) hS1
    have S6 : (upd H5 S1 (.lst (ns.map V.str))) S1 = some (.lst (ns.map V.str)) := upd_same
    have E6 := (E4.trans W e5).trans W x6
    have nSp := e5.w.np hS1
    have nSl := e5.w.nl hS1
    generalize upd H5 S1 (.lst (ns.map V.str)) = H6 at x6 E6 S6 ⊢
    have ln : ns.length ≤ 8 := by
      have h1 := sub.length_le
      have h2 := pms.length_eq
      have h3 : pool8.length = 8 := rfl
      omega
    have tm : ∀ z ∈ ns, Tm (.str z) := fun z m => pool8_ok z (pms.mem_iff.mp (sub.subset m))
    dsimp only [gName, List.set]
    refine ⟨_, rfl, _, rfl, S1, _, rfl, .inl (SqL.of S6), _, _, rfl, rfl, p, l, G4, _, rfl, ?_, ?_, E6.w, fun f1 H7 f0 f2 e7 => ?_⟩
    · rw [List.length_map]
      omega
    · rw [List.length_map]
      omega
    rw [List.length_map] at f2
    have S7 := e7.keep _ _ nSp nSl S6
    dsimp only [gName, List.set]
    refine ⟨_, rfl, _, rfl, _, rfl, S1, _, rfl, .inl (SqL.of S7), _, rfl, _, _, rfl, rfl, _, _, rfl, rfl, _, _, rfl, ?_⟩
    rw [List.length_map]
    have bm : ∀ a b : Int, 1 ≤ a → 1 ≤ b → b < 1000000 → 1 ≤ (if a < b then a else b) ∧ (if a < b then a else b) < 1000000 := fun a b h1 h2 h3 => by
      split
      · omega
      · omega
    have E7 := E6.trans W e7
    refine ⟨p, l, G4, _, rfl, (bm _ 2 (by omega) (by decide) (by decide)).1, (bm _ 2 (by omega) (by decide) (by decide)).2, E7.w, fun d2 H8 d20 d21 e8 => ⟨_, _, rfl, rfl, ?_⟩⟩
    have S8 := e8.keep _ _ nSp nSl S7
    have E8 := E7.trans W e8
    have g6 : G4 S1 = none := e5.w.same.free hS1
    have g8 := e8.new _ _ S7 (e7.new _ _ S6 g6)
    obtain ⟨w9, s9⟩ := E8.w.hold nSp nSl g8 S8
    have h1S : H S1 = none := (E4.trans W e5).old hS1
    have E9 : Ext p l G H (upd G4 S1 (.lst (ns.map V.str))) H8 := ⟨w9, E8.sub.trans s9, E8.keep, fun b o q g => by
      have nb : b ≠ S1 := fun e => by rw [e, h1S] at q; cases q
      rw [upd_ne nb]
      exact E8.new b o q g⟩
    have dS : Da K (upd G4 S1 (.lst (ns.map V.str))) (.ref S1) (.list (ns.map .str)) := .lst upd_same (da_strs ns)
    have fS : LsQ TmS 0 8 (.list (ns.map .str)) := ⟨_, rfl, Nat.zero_le _, by rw [List.length_map]; exact ln, fun x m => by
      obtain ⟨z, mz, rfl⟩ := List.mem_map.mp m
      exact ⟨tm z mz, z, rfl⟩⟩
    dsimp only [gName, List.set]
    refine TD.ret (K := K) (p := p) (l := l) (G := upd G4 S1 (.lst (ns.map V.str))) (φ := fun d => ∃ ds, d = .tuple ds ∧ ∃ a r, ds = a :: r ∧ TpQ TmS 8 a ∧ ∃ b r2, r = b :: r2 ∧ TpQ TmS 8 b ∧ ∃ c r3, r2 = c :: r3 ∧ TpQ TmS 8 c ∧ r3 = []) ?h E9.w (fun v e G6 H6 x da f => k v e G6 H6 (E9.trans W x) da ?_)
    · refine td_tupP (tds_consP (td_tupL (td_slL (td_var (φ := LsQ TmS 0 8) rfl dS fS) tp_none (tp_var rfl))) (tds_consP (td_tupL (td_slL (td_var (φ := LsQ TmS 0 8) rfl dS fS) (tp_var rfl) (tp_var rfl))) (tds_consP (td_tupL (td_slL (td_var (φ := LsQ TmS 0 8) rfl dS fS) (tp_var rfl) tp_none)) tds_nilP))) fun ds h => ?_
      obtain ⟨_, _, rfl, _, _, _, rfl, _, _, _, rfl, _, rfl⟩ := h
      show 3 ≤ sizeLine
      decide
    · obtain ⟨_, rfl, _, _, rfl, ⟨a, rfl, a1, a2⟩, _, _, rfl, ⟨b, rfl, b1, b2⟩, _, _, rfl, ⟨c, rfl, c1, c2⟩, rfl⟩ := f
      exact ⟨a, b, c, ⟨rfl, ⟨a1, fun x m => (a2 x m).1⟩, ⟨b1, fun x m => (b2 x m).1⟩, ⟨c1, fun x m => (c2 x m).1⟩⟩, strs_of fun x m => (by
        rcases List.mem_append.mp m with m | m
        · rcases List.mem_append.mp m with m | m
          · exact a2 x m
          · exact b2 x m
        · exact c2 x m)⟩
theorem sim_ok {w : Str} {ds : List PyData} (h1 : w ≠ "if") (h2 : w ≠ "while") (h3 : w ≠ "call") (h4 : Tm (.str w)) (hl : ds.length ≤ 2) (hd : ∀ x ∈ ds, Tm x) : SimD (.tuple (.str w :: ds)) := by
  refine ⟨w, ds, rfl, h1, h2, .inr ⟨h3, by omega⟩, Okd.mono (k := 1) (n := 279) (Okd.tup (k := 0) (n := 90) (m := 3) (fun y m => ?_) (by rw [List.length_cons]; omega))⟩
  rcases List.mem_cons.mp m with rfl | m
  · exact h4
  · exact hd y m
theorem td_sim3 {w : Str} {i j : Nat} {a b : V} {da db : PyData} (hi : σ[i]? = some (some a)) (ha : Da K G a da) (fa : Tm da) (hj : σ[j]? = some (some b)) (hb : Da K G b db) (fb : Tm db) (h1 : w ≠ "if" := by decide) (h2 : w ≠ "while" := by decide) (h3 : w ≠ "call" := by decide) (h4 : okB (.str w) = true := by decide +kernel) (h5 : siz (.str w) ≤ 90 := by decide +kernel) :
    TD K p l σ G (tTup (tCons (tC (.str w)) (tCons (tVar i) (tCons (tVar j) tNil)))) SimD :=
  TD.imp (td_tupP (tds_consP (TD.flat (φ := fun x => x = .str w) (fun _ => .str w) rfl) (tds_consP (td_var hi ha fa) (tds_consP (td_var hj hb fb) tds_nilP))) fun ds h => by
    obtain ⟨_, _, rfl, _, _, _, rfl, _, _, _, rfl, _, rfl⟩ := h
    show 3 ≤ sizeLine
    decide) fun d ⟨ds, e, h⟩ => by
    obtain ⟨_, _, rfl, rfl, _, _, rfl, f1, _, _, rfl, f2, rfl⟩ := h
    rw [e]
    exact sim_ok h1 h2 h3 ⟨h4, Nat.zero_le _, h5⟩ (by show 2 ≤ 2; decide) (fun x m => by
      rcases List.mem_cons.mp m with rfl | m
      · exact f1
      · rw [List.mem_singleton.mp m]
        exact f2)
theorem td_sim2 {w : Str} {i : Nat} {a : V} {da : PyData} (hi : σ[i]? = some (some a)) (ha : Da K G a da) (fa : Tm da) (h1 : w ≠ "if" := by decide) (h2 : w ≠ "while" := by decide) (h3 : w ≠ "call" := by decide) (h4 : okB (.str w) = true := by decide +kernel) (h5 : siz (.str w) ≤ 90 := by decide +kernel) :
    TD K p l σ G (tTup (tCons (tC (.str w)) (tCons (tVar i) tNil))) SimD :=
  TD.imp (td_tupP (tds_consP (TD.flat (φ := fun x => x = .str w) (fun _ => .str w) rfl) (tds_consP (td_var hi ha fa) tds_nilP)) fun ds h => by
    obtain ⟨_, _, rfl, _, _, _, rfl, _, rfl⟩ := h
    show 2 ≤ sizeLine
    decide) fun d ⟨ds, e, h⟩ => by
    obtain ⟨_, _, rfl, rfl, _, _, rfl, f1, rfl⟩ := h
    rw [e]
    exact sim_ok h1 h2 h3 ⟨h4, Nat.zero_le _, h5⟩ (by show 1 ≤ 2; decide) (fun x m => by
      rw [List.mem_singleton.mp m]
      exact f1)
theorem othD_shaped {d : PyData} (h : OthD d) : d.canLay0 = true ∧ SeqAt.shaped d = true := by
  obtain ⟨os, rfl, _, h⟩ := h
  have hs : ∀ e ∈ os, Shp e := fun e m => (h e m).1
  exact ⟨by simpa [PyData.canLay0] using (shp_all hs).1, shaped_list hs⟩
theorem D_l_simple (T : Txt K mg) : Df P w K mg base 3 "_law_simple" ["stock", "shape", "others"] (spSimple K) := by
  have D_l_draw := D_draw (P := P) (w := w) (base := base) T
  have D_l_pick := D_pick (P := P) (w := w) (base := base) T
  have D_l_values := D_l_values (P := P) (w := w) (base := base) T
  obtain ⟨f, fd, S⟩ := T.d_l_simple
  refine Df.mk' (k := 2) S sc_l_simple (fun vs H Q E h => ?_) (fun cdv A outer s H vs Q E hgd hr h => ?_)
  · obtain ⟨p, l, G, us, ds, rfl, _, da, ⟨sh, ot, a, b, c, rfl, _⟩, _⟩ := h
    rw [List.length_cons, da.length]
    rfl
  · obtain ⟨p, l, G, us, ds, rfl, W, da, ⟨sh, ot, a, b, c, rfl, hs, ho⟩, k⟩ := h
    obtain ⟨v, u, rfl, d1, d2⟩ := da.two
    have big : (2000 : Nat) ≤ sizeLine := by decide
    refine ⟨_, (pss_cons (ps_asg (pe_tup (pa_cons (pe_d D_l_values hgd hr (pa_cons (pv 1) pa_nil)) (pa_cons (pe_d D_l_draw hgd hr (pa_cons (pv 0) (pa_cons pe_int pa_nil))) pa_nil))) (pg_tup rfl (pgs_cons (pg_name (i := 3) sc_l_simple.nd rfl (.inr rfl)) (pgs_cons (pg_name (i := 4) sc_l_simple.nd rfl (.inl rfl)) pgs_nil))))
      (pss_cons (ps_par3 (i := 5) (j := 6) (l := 7) (by rfl) sc_l_simple.nd rfl rfl rfl (by decide) (by decide) (by decide) rfl rfl rfl (pa_cons (pe_d D_l_pick hgd hr (pa_cons (pv 0) (pa_cons (pe_op op_cat (pe_lst (pa_cons pe_str pa_nil)) (pe_callTy call_list_of (by rfl) T.b_list (by decide +kernel) (pa_cons (pe_ix ix_tup (pv 1) pe_int (fun _ _ => rfl)) pa_nil))) pa_nil))) (pa_cons (pe_d D_l_pick hgd hr (pa_cons (pv 0) (pa_cons (pv 3) pa_nil))) (pa_cons (pe_d D_l_pick hgd hr (pa_cons (pv 0) (pa_cons (pv 3) pa_nil))) pa_nil))) (by rfl))
      (pss_cons (ps_if (PW.pt (pw_and (pt_cmpR op_eq (pv 4) pe_int (nomark _)) (pw_and1 (pt_cmpR (op_neD hr.units) (pv 2) (pe_lst pa_nil) (nomark _))))) (pss_cons (ps_asg (pe_d D_l_pick hgd hr (pa_cons (pv 0) (pa_cons (pv 2) pa_nil))) (pg_tup rfl (pgs_cons (pg_name (i := 8) sc_l_simple.nd rfl (.inl rfl)) (pgs_cons (pg_name (i := 9) sc_l_simple.nd rfl (.inl rfl)) (pgs_cons (pg_name (i := 10) sc_l_simple.nd rfl (.inl rfl)) pgs_nil)))))
      (pss_cons (ps_set (i := 11) sc_l_simple.nd rfl (.inl rfl) (pe_callTy call_tuple_of (by rfl) T.b_tuple (by decide +kernel) (pa_cons (pe_lc (X := (cxOf CX0 P w K mg base ["stock", "shape", "others", "values", "way", "x", "a", "b", "callee", "many", "more", "args", "turn"] "_law_simple" (defScope s_l_simple) f cdv A outer s H E).nox) (own := [("turn", 12)]) (te := tCall spPick [] E0 (tCons (tVar 0) (tCons (tVar 3) tNil))) (g := gName 12) (tt := tYes) rfl sc_l_simple.nd (pi_range1 rfl T.b_range (pa_cons (pv 9) pa_nil)) (blkOk_by (own := [("turn", 12)]) (N := ["stock", "shape", "others", "values", "way", "x", "a", "b", "callee", "many", "more", "args", "turn"]) (sc := defScope s_l_simple) (by decide +kernel)) (fun _ _ _ _ _ => pg_name (i := 12) sc_l_simple.nd rfl (.inl rfl)) (fun _ _ _ _ _ => pts_nil) (fun _ _ _ _ _ => (pe_d D_l_pick hgd hr (pa_cons (pv 0) (pa_cons (pv 3) pa_nil))))) pa_nil)))
      (pss_one (ps_ret (pe_tup (pa_cons pe_str (pa_cons (pv 5) (pa_cons (pv 8) (pa_cons (pv 11) (pa_cons (pe_callTy call_tuple_of (by rfl) T.b_tuple (by decide +kernel) (pa_cons (pe_lc (X := (cxOf CX0 P w K mg base ["stock", "shape", "others", "values", "way", "x", "a", "b", "callee", "many", "more", "args", "turn"] "_law_simple" (defScope s_l_simple) f cdv A outer s H E).nox) (own := [("turn", 12)]) (te := tCall spPick [] E0 (tCons (tVar 0) (tCons (tOp rCat (tVar 3) (tCB (rLstOf K) (tCons (tOp (rIxT K) (tVar 1) (tC (.int 1))) tNil))) tNil))) (g := gName 12) (tt := tYes) rfl sc_l_simple.nd (pi_range1 rfl T.b_range (pa_cons (pv 10) pa_nil)) (blkOk_by (own := [("turn", 12)]) (N := ["stock", "shape", "others", "values", "way", "x", "a", "b", "callee", "many", "more", "args", "turn"]) (sc := defScope s_l_simple) (by decide +kernel)) (fun _ _ _ _ _ => pg_name (i := 12) sc_l_simple.nd rfl (.inl rfl)) (fun _ _ _ _ _ => pts_nil) (fun _ _ _ _ _ => (pe_d D_l_pick hgd hr (pa_cons (pv 0) (pa_cons (pe_op op_cat (pv 3) (pe_callTy call_list_of (by rfl) T.b_list (by decide +kernel) (pa_cons (pe_ix ix_tup (pv 1) pe_int (fun _ _ => rfl)) pa_nil))) pa_nil))))) pa_nil)) pa_nil)))))))))) pss_nil)
      (pss_cons (ps_if (pt_cmpR op_lt (pv 4) pe_int (nomark _)) (pss_one (ps_ret (pe_tup (pa_cons pe_str (pa_cons (pv 5) (pa_cons (pv 6) pa_nil)))))) pss_nil)
      (pss_one (ps_ret (pe_ix ix_list (pe_lst (pa_cons (pe_tup (pa_cons pe_str (pa_cons (pv 5) (pa_cons (pv 6) pa_nil)))) (pa_cons (pe_tup (pa_cons pe_str (pa_cons (pv 5) (pa_cons (pv 6) pa_nil)))) (pa_cons (pe_tup (pa_cons pe_str (pa_cons (pv 5) (pa_cons (pv 6) pa_nil)))) (pa_cons (pe_tup (pa_cons pe_str (pa_cons (pv 6) (pa_cons (pv 7) pa_nil)))) (pa_cons (pe_tup (pa_cons pe_str (pa_cons (pv 6) pa_nil))) pa_nil)))))) (pe_op op_sub (pv 4) pe_int) (fun _ _ => rfl)))))))), ?_⟩
    refine TD.app (K := K) (p := p) (l := l) (G := G) (φ := LsQ Tm 1 18) (td_callV (tds_consP (td_is rfl d1) tds_nilP) (fun ds h => ?_)) W fun tv dv G1 H1 e1 dtv hv => ?_
    · obtain ⟨x, r, rfl, ex, rfl⟩ := h
      rw [ex]
      exact ⟨sh, a, b, c, rfl, hs⟩
    refine ⟨_, rfl, p, l, G1, 8, rfl, by decide, by decide, e1.w, fun d H2 d0 d1' e2 => ⟨by show 2 ≤ sizeLine; decide, fun t0 ht0 => ?_⟩⟩
    have E2 := e1.trans W e2
    have x3 := e2.w.tmp (o := .tup [tv, V.int d]) ht0
    have E3 := E2.trans W x3
    refine ⟨t0, _, rfl, SqT.of upd_same, rfl, _, _, rfl, _, _, rfl, rfl, ?_⟩
    generalize upd H2 t0 (.tup [tv, V.int d]) = H3 at E3 ⊢
    dsimp only [gName, List.set]
    have d1G := d1.mono e1.sub
    have d2G := d2.mono e1.sub
    refine TD.app (K := K) (p := p) (l := l) (G := G1) (φ := Tm) (td_pickQ (td_catQ (td_lstQ (tds_consF td_strT tds_nilF)) (td_listT (td_part (c := 2) rfl d1G hs (by decide)))) rfl) E3.w fun xv dx G4 H4 e4 dxv hx => ?_
    refine TD.app (K := K) (p := p) (l := l) (G := G4) (φ := Tm) (td_pickQ (td_var (φ := LsQ Tm 1 18) rfl (dtv.mono e4.sub) hv) rfl) e4.w fun av da G5 H5 e5 dav ha => ?_
    refine TD.app (K := K) (p := p) (l := l) (G := G5) (φ := Tm) (td_pickQ (td_var (φ := LsQ Tm 1 18) rfl (dtv.mono (e4.sub.trans e5.sub)) hv) rfl) e5.w fun bv db G6 H6 e6 dbv hb => ?_
    refine ⟨_, _, _, rfl, ?_⟩
    have E6 := ((E3.trans W e4).trans W e5).trans W e6
    have s56 := e5.sub.trans e6.sub
    have s46 := e4.sub.trans s56
    have dxv := dxv.mono s56
    have dav := dav.mono e6.sub
    have dtv6 := dtv.mono s46
    have d1G := d1G.mono s46
    have d2G := d2G.mono s46
    clear e4 e5 e6 E3 x3 E2 e2 e1 s56 ht0
    dsimp only [gName, List.set]
    refine seq_by (fun σ2 Hx => σ2 = [some (.ref p), some v, some u, some tv, some (.int d), some xv, some av, some bv, none, none, none, none, none] ∧ Ext p l G6 H6 G6 Hx) (fun fin => ?_) ?_
    · refine ⟨_, rfl, rfl, _, rfl, ?_⟩
      rw [show decide (V.int d = V.int 0) = decide (d = 0) from decide_eq_decide.mpr ⟨fun h => vint h, fun h => by rw [h]⟩]
      refine iteB (fun h0 => ?_) (fun _ => fin _ _ ⟨rfl, Ext.refl E6.w⟩)
      obtain ⟨os, rfl, lo, hos⟩ := id ho
      refine ⟨_, rfl, Nat.zero_le _, fun q hq => ?_⟩
      have x7 := E6.w.tmp (o := .lst []) hq
      have sh := othD_shaped ho
      refine ⟨.list os, .list [], d2G.dp x7.w.same sh.1, .lst (SqL.of upd_same) .nil, sh.2, rfl, _, rfl, ?_⟩
      rw [eqv_nilG]
      refine iteNot (fun hn => ?_) (fun _ => fin _ _ ⟨rfl, x7⟩)
      have ne : os ≠ [] := of_decide_eq_false hn
      have E7 := E6.trans W x7
      refine TD.asgG (K := K) (p := p) (l := l) (G := G6) (φ := fun o => ∃ (z : Str) (i j : Int), o = .tuple [.str z, .int i, .int j] ∧ Tm (.str z) ∧ 0 ≤ i ∧ i ≤ 8 ∧ 0 ≤ j ∧ j ≤ 8) (td_pickQ (lo := 1) (m := 10) (td_var rfl d2G ⟨os, rfl, List.length_pos_iff.mpr ne, lo, fun o m => (hos o m).2⟩) rfl) E7.w fun ov dO G8 H8 e8 dov ⟨z, i, j, eO, hz, i0, i1, j0, j1⟩ => ?_
      subst eO
      obtain ⟨ta, xs, rfl, sqo, dxs⟩ := dov.tupI
      cases dxs with
      | cons b1 t =>
      cases b1
      cases t with
      | cons b2 t =>
      cases b2
      cases t with
      | cons b3 t =>
      cases b3
      cases t
      refine ⟨ta, _, rfl, sameT e8.w.same sqo, rfl, _, _, rfl, _, _, rfl, _, _, rfl, rfl, ?_⟩
      dsimp only [gName, List.set]
      have E8 := E7.trans W e8
      refine TD.asg (K := K) (p := p) (l := l) (G := G8) (φ := fun x => ∃ ds, x = .tuple ds ∧ (ds.length : Int) = i ∧ ∀ y ∈ ds, Tm y) (td_tupleN (td_lc (M := 8) (tw_var rfl i0 (by omega)) (fun N hN => by omega) (by decide) fun n => td_pickQ (td_var (φ := LsQ Tm 1 18) rfl (dtv6.mono e8.sub) hv) rfl)) E8.w fun gv dg G9 H9 e9 dgv hg => ?_
      obtain ⟨gs, rfl, lg, hgs⟩ := hg
      dsimp only [gName, List.set]
      have E9 := E8.trans W e9
      have s69 := e8.sub.trans e9.sub
      refine TD.ret (K := K) (p := p) (l := l) (G := G9) (φ := fun x => ∃ ds, x = .tuple ds ∧ ∃ a r, ds = a :: r ∧ a = .str "call" ∧ ∃ b r2, r = b :: r2 ∧ b = dx ∧ ∃ c r3, r2 = c :: r3 ∧ c = .str z ∧ ∃ e r4, r3 = e :: r4 ∧ e = .tuple gs ∧ ∃ f r5, r4 = f :: r5 ∧ (∃ ks, f = .tuple ks ∧ (ks.length : Int) = j ∧ ∀ y ∈ ks, Tm y) ∧ r5 = []) ?h1 E9.w (fun v e G' H' x da f => k v e G' H' (E9.trans W x) da ?_)
      · refine td_tupP (tds_consP (TD.flat (fun _ => .str "call") rfl) (tds_consP (td_is rfl (dxv.mono s69)) (tds_consP (td_is rfl (.str z)) (tds_consP (td_is rfl dgv) (tds_consP (td_tupleN (td_lc (M := 8) (tw_var rfl j0 (by omega)) (fun N hN => by omega) (by decide) fun n => td_pickQ (td_catQ (td_var (φ := LsQ Tm 1 18) rfl (dtv6.mono s69) hv) (td_listT (td_part (c := 1) rfl (d1G.mono s69) hs (by decide)))) rfl)) tds_nilP))))) fun ds h => ?_
        obtain ⟨_, _, rfl, _, _, _, rfl, _, _, _, rfl, _, _, _, rfl, _, _, _, rfl, _, rfl⟩ := h
        show 5 ≤ sizeLine
        decide
      · obtain ⟨_, rfl, _, _, rfl, rfl, _, _, rfl, rfl, _, _, rfl, rfl, _, _, rfl, rfl, _, _, rfl, ⟨ks, rfl, lk, hks⟩, rfl⟩ := f
        refine ⟨"call", _, rfl, by decide, by decide, .inl ⟨rfl, rfl⟩, Okd.tup (k := 1) (n := 739) (m := 5) (fun y m => ?_) (Nat.le_refl 5)⟩
        have tm : ∀ {y : PyData}, Tm y → Okd 1 739 y := fun h => h.mono
        have h42 : Tm (.str "call") := ⟨by decide +kernel, Nat.zero_le _, by decide +kernel⟩
        rcases List.mem_cons.mp m with rfl | m
        · exact tm h42
        · rcases List.mem_cons.mp m with rfl | m
          · exact tm hx
          · rcases List.mem_cons.mp m with rfl | m
            · exact tm hz
            · rcases List.mem_cons.mp m with rfl | m
              · exact Okd.tup hgs (m := 8) (by omega)
              · rw [List.mem_singleton.mp m]
                exact Okd.tup hks (m := 8) (by omega)
    · rintro σ2 Hx ⟨rfl, x7⟩
      have E7 := E6.trans W x7
      refine ⟨_, rfl, _, _, rfl, rfl, _, rfl, iteD (fun h3 => ?_) (fun h3 => ?_)⟩
      · exact TD.ret (K := K) (p := p) (l := l) (G := G6) (φ := SimD) (td_sim3 rfl dxv hx rfl dav ha) E7.w (fun v e G' H' x da f => k v e G' H' (E7.trans W x) da f)
      · dsimp only [tNext]
        exact TD.ret (K := K) (p := p) (l := l) (G := G6) (φ := SimD) (td_ixL (m := 5) (c := d - 3) (td_lstQ (tds_consF (td_sim3 rfl dxv hx rfl dav ha) (tds_consF (td_sim3 rfl dxv hx rfl dav ha) (tds_consF (td_sim3 rfl dxv hx rfl dav ha) (tds_consF (td_sim3 rfl dav ha rfl dbv hb) (tds_consF (td_sim2 rfl dav ha) tds_nilF)))))) (fun H Q h => ⟨_, rfl, _, _, rfl, rfl, h⟩) (by omega) (by omega)) E7.w (fun v e G' H' x da f => k v e G' H' (E7.trans W x) da f)
end
end L2.Hx

/-! Statements and functions. -/
namespace L2.Hx
open PySem PySem.Spec PyProof.Rows
inductive Sx where
  | sim (w : Str) (ds : List PyData)
  | ite (t : PyData) (a b : List Sx)
  | whl (t k : PyData) (a : List Sx)
mutual
def datS : Sx → PyData
  | .sim w ds => .tuple (.str w :: ds)
  | .ite t a b => .tuple [.str "if", t, .tuple (datL a), .tuple (datL b)]
  | .whl t k a => .tuple [.str "while", t, k, .tuple (datL a)]
def datL : List Sx → List PyData
  | [] => []
  | s :: r => datS s :: datL r
end
theorem datL_map : ∀ ss : List Sx, datL ss = ss.map datS
  | [] => by rw [datL]; rfl
  | s :: r => by rw [datL, datL_map r]; rfl
def sizN : Nat → Nat
  | 0 => 3708
  | n + 1 => 4 * sizN n + 3000
/-- a statement in which others stand so deep at most -/
def OkS : Nat → Sx → Prop
  | 0, s => ∃ w ds, s = .sim w ds ∧ SimOk w ds
  | n + 1, s => (∃ w ds, s = .sim w ds ∧ SimOk w ds) ∨ (∃ t a b, s = .ite t a b ∧ Okd 1 279 t ∧ a.length ≤ 2 ∧ b.length ≤ 2 ∧ (∀ x ∈ a, OkS n x) ∧ ∀ x ∈ b, OkS n x) ∨ (∃ t k a, s = .whl t k a ∧ Okd 1 279 t ∧ Okd 4 2281 k ∧ a.length ≤ 2 ∧ ∀ x ∈ a, OkS n x)
theorem OkS.sim {w : Str} {ds : List PyData} (h : SimOk w ds) : ∀ n, OkS n (.sim w ds)
  | 0 => ⟨w, ds, rfl, h⟩
  | _ + 1 => .inl ⟨w, ds, rfl, h⟩
theorem OkS.up : ∀ {n : Nat} {s : Sx}, OkS n s → OkS (n + 1) s
  | 0, s, h => .inl h
  | n + 1, s, h => by
    rcases h with h | ⟨t, a, b, e, h1, h2, h3, h4, h5⟩ | ⟨t, k, a, e, h1, h2, h3, h4⟩
    · exact .inl h
    · exact .inr (.inl ⟨t, a, b, e, h1, h2, h3, fun x m => (h4 x m).up, fun x m => (h5 x m).up⟩)
    · exact .inr (.inr ⟨t, k, a, e, h1, h2, h3, fun x m => (h4 x m).up⟩)
theorem OkS.to {n : Nat} {s : Sx} (h : OkS n s) : ∀ m, OkS (n + m) s
  | 0 => h
  | m + 1 => (h.to m).up
theorem okS_okd : ∀ (n : Nat) (s : Sx), OkS n s → Okd (2 * n + 4) (sizN n) (datS s)
  | 0, s, h => by
    obtain ⟨w, ds, rfl, h⟩ := h
    rw [datS]
    exact h.ok.mono
  | n + 1, s, h => by
    have word : ∀ z : Str, okB (.str z) = true → siz (.str z) ≤ 90 → Okd (2 * n + 5) 90 (.str z) := fun z a b => ⟨a, Nat.zero_le _, b⟩
    have hL : ∀ a : List Sx, a.length ≤ 2 → (∀ x ∈ a, OkS n x) → Okd (2 * n + 5) (2 * sizN n + 7) (.tuple (datL a)) := fun a la ha => by
      rw [datL_map]
      refine Okd.tup (k := 2 * n + 4) (n := sizN n) (m := 2) (fun d m => ?_) (by rw [List.length_map]; exact la) (by omega)
      obtain ⟨x, mx, rfl⟩ := List.mem_map.mp m
      exact okS_okd n x (ha x mx)
    rcases h with ⟨w, ds, rfl, h⟩ | ⟨t, a, b, rfl, h1, h2, h3, h4, h5⟩ | ⟨t, k, a, rfl, h1, h2, h3, h4⟩
    · rw [datS]
      refine h.ok.mono (by omega) ?_
      have : ∀ m, 3708 ≤ sizN m := fun m => by
        induction m with
        | zero => exact Nat.le_refl _
        | succ m ih => rw [sizN]; omega
      exact this (n + 1)
    · rw [datS, sizN]
      exact OkT.tup (OkT.cons (word "if" (by decide +kernel) (by decide +kernel)) (OkT.cons (h1.mono (by omega) (Nat.le_refl _)) (OkT.cons (hL a h2 h4) (OkT.cons (hL b h3 h5) .nil (n := 2 * sizN n + 9) (b := 0) (by omega)) (n := 4 * sizN n + 18) (by omega)) (n := 4 * sizN n + 299) (by omega)) (n := 4 * sizN n + 391) (by omega)) (by omega)
    · rw [datS, sizN]
      exact OkT.tup (OkT.cons (word "while" (by decide +kernel) (by decide +kernel)) (OkT.cons (h1.mono (by omega) (Nat.le_refl _)) (OkT.cons (h2.mono (by omega) (Nat.le_refl _)) (OkT.cons (hL a h3 h4) .nil (n := 2 * sizN n + 9) (b := 0) (by omega)) (n := 2 * sizN n + 2292) (by omega)) (n := 2 * sizN n + 2573) (by omega)) (n := 2 * sizN n + 2665) (by omega)) (by omega)
def StD (n : Nat) (d : PyData) : Prop := ∃ s, OkS n s ∧ d = datS s
def StsD (n m : Nat) (d : PyData) : Prop := ∃ ss : List Sx, d = .tuple (datL ss) ∧ ss.length ≤ m ∧ ∀ s ∈ ss, OkS n s
theorem all_st {n : Nat} : ∀ {ds : List PyData}, (∀ d ∈ ds, StD n d) → ∃ ss : List Sx, ds = datL ss ∧ ss.length = ds.length ∧ ∀ s ∈ ss, OkS n s
  | [], _ => ⟨[], by rw [datL], rfl, fun s m => absurd m List.not_mem_nil⟩
  | d :: ds, h => by
    obtain ⟨s, h1, e1⟩ := h d List.mem_cons_self
    obtain ⟨ss, e2, l2, h2⟩ := all_st fun x m => h x (List.mem_cons_of_mem _ m)
    exact ⟨s :: ss, by rw [datL, ← e2, e1], by rw [List.length_cons, List.length_cons, l2], fun x m => (List.mem_cons.mp m).elim (fun e => by rw [e]; exact h1) (h2 x)⟩
def spNo : Sp := fun _ _ _ _ => False
def spSt (K : PySem.W.Frag) (n : Nat) : Sp := spG K (fun ds => ∃ (sh ot : PyData) (a b c : List PyData) (dp : Int), ds = [sh, ot, .int dp] ∧ dp + n = 3 ∧ ShapeD a b c sh ∧ OthD ot) (StD n)
def spSts (K : PySem.W.Frag) (n m : Nat) : Sp := spG K (fun ds => ∃ (sh ot : PyData) (a b c : List PyData) (dp : Int), ds = [sh, ot, .int dp, .int ((m : Int) + 1)] ∧ dp + n = 3 ∧ m ≤ 100 ∧ ShapeD a b c sh ∧ OthD ot) (StsD n m)
theorem DaAll.three {K : PySem.W.Frag} {G : Hp} {us : List V} {d e f : PyData} (h : DaAll K G us [d, e, f]) : ∃ v u x, us = [v, u, x] ∧ Da K G v d ∧ Da K G u e ∧ Da K G x f := by
  cases h with
  | cons a t =>
    obtain ⟨u, x, rfl, b, c⟩ := t.two
    exact ⟨_, _, _, rfl, a, b, c⟩
theorem DaAll.four {K : PySem.W.Frag} {G : Hp} {us : List V} {d e f g : PyData} (h : DaAll K G us [d, e, f, g]) : ∃ v u x y, us = [v, u, x, y] ∧ Da K G v d ∧ Da K G u e ∧ Da K G x f ∧ Da K G y g := by
  cases h with
  | cons a t =>
    obtain ⟨u, x, y, rfl, b, c, d⟩ := t.three
    exact ⟨_, _, _, _, rfl, a, b, c, d⟩
section
variable {P : Program} {w : World} {K : PySem.W.Frag} {mg : Str → Option Value} {base : Heap} {p l : Addr} {σ : St} {G : Hp} {φ ψ : PyData → Prop} {t te : TE} {tr : TA} {m : Nat}
theorem D_sts0 (T : Txt K mg) : Df P w K mg base 0 "_law_statements" ["stock", "shape", "others", "deep", "many"] spNo := by
  obtain ⟨f, fd, S⟩ := T.d_l_statements
  exact ⟨f, fd, ⟨fun vs H Q E h => absurd h id, fun _ _ _ _ _ _ _ _ _ _ _ _ _ _ h => absurd h id⟩, S.at_, S.fn.kp, S.bd⟩
theorem D_sts1 (T : Txt K mg) {k n m : Nat} (D_l_statement : Df P w K mg base k "_law_statement" ["stock", "shape", "others", "deep"] (spSt K n)) (hk : 1 ≤ k) : Df P w K mg base (k + 1) "_law_statements" ["stock", "shape", "others", "deep", "many"] (spSts K n m) := by
  have D_l_draw := (D_draw (P := P) (w := w) (base := base) T).mono hk
  obtain ⟨f, fd, S⟩ := T.d_l_statements
  refine Df.mk' (k := k) S sc_l_statements (fun vs H Q E h => ?_) (fun cdv A outer s H vs Q E hgd hr h => ?_)
  · obtain ⟨p, l, G, us, ds, rfl, _, da, ⟨sh, ot, a, b, c, dp, rfl, _⟩, _⟩ := h
    rw [List.length_cons, da.length]
    rfl
  · obtain ⟨p, l, G, us, ds, rfl, W, da, ⟨sh, ot, a, b, c, dp, rfl, hdp, hm, hs, ho⟩, kk⟩ := h
    obtain ⟨v, u, x, y, rfl, d1, d2, d3, d4⟩ := da.four
    cases d3
    cases d4
    have big : m < sizeLine := by
      have : (1000 : Nat) ≤ sizeLine := by decide
      omega
    refine ⟨_, (pss_one (ps_ret (pe_callTy call_tuple_of (by rfl) T.b_tuple (by decide +kernel) (pa_cons (pe_lc (X := (cxOf CX0 P w K mg base ["stock", "shape", "others", "deep", "many", "turn"] "_law_statements" (defScope s_l_statements) f cdv A outer s H E).nox) (own := [("turn", 5)]) (te := tCall (spSt K n) [] E0 (tCons (tVar 0) (tCons (tVar 1) (tCons (tVar 2) (tCons (tVar 3) tNil))))) (g := gName 5) (tt := tYes) rfl sc_l_statements.nd (pi_range1 rfl T.b_range (pa_cons (pe_d D_l_draw hgd hr (pa_cons (pv 0) (pa_cons (pv 4) pa_nil))) pa_nil)) (blkOk_by (own := [("turn", 5)]) (N := ["stock", "shape", "others", "deep", "many", "turn"]) (sc := defScope s_l_statements) (by decide +kernel)) (fun _ _ _ _ _ => pg_name (i := 5) sc_l_statements.nd rfl (.inl rfl)) (fun _ _ _ _ _ => pts_nil) (fun _ _ _ _ _ => (pe_d D_l_statement hgd hr (pa_cons (pv 0) (pa_cons (pv 1) (pa_cons (pv 2) (pa_cons (pv 3) pa_nil))))))) pa_nil)))), ?_⟩
    refine TD.ret (K := K) (p := p) (l := l) (G := G) (φ := StsD n m) ?h W (fun v e G6 H6 x da f => kk v e G6 H6 x da f)
    refine TD.imp (td_tupleN (td_lc (M := m) (φ := StD n) (tw_drawv (c := (m : Int) + 1) rfl rfl (by omega) (by omega)) (fun N hN => by omega) big fun i => td_call (tds_consP (td_is rfl d1) (tds_consP (td_is rfl d2) (tds_consP (td_is rfl (.int dp)) tds_nilP))) (fun ds h => ?_) rfl)) fun d ⟨ds, e, ln, o⟩ => ?_
    · obtain ⟨_, _, rfl, e1, _, _, rfl, e2, _, _, rfl, e3, rfl⟩ := h
      rw [e1, e2, e3]
      exact ⟨sh, ot, a, b, c, dp, rfl, hdp, hs, ho⟩
    · obtain ⟨ss, e2, l2, h2⟩ := all_st o
      exact ⟨ss, by rw [e, e2], by omega, h2⟩
end
end L2.Hx

/-! A statement, with those that stand in it. -/
namespace L2.Hx
open PySem PySem.Spec PyProof.Rows
/-- a test, whatever it tells -/
def TB (p l : Addr) (σ : St) (G : Hp) (t : TT) : Prop := ∀ (G1 H : Hp) (Q : Bool → Hp → Prop), Wd p l G1 H → Same G G1 → (∀ b G2 H2, Ext p l G1 H G2 H2 → Q b H2) → t σ H Q
section
variable {P : Program} {w : World} {K : PySem.W.Frag} {mg : Str → Option Value} {base : Heap} {p l : Addr} {σ : St} {G : Hp} {φ ψ : PyData → Prop} {t ta tb te : TE} {tt : TT} {tr : TA} {m : Nat}
theorem td_ifB (h : TB p l σ G tt) (ha : TD K p l σ G ta φ) (hb : TD K p l σ G tb φ) : TD K p l σ G (tIf tt ta tb) φ := fun G1 H Q W s k =>
  h G1 H _ W s fun b G2 H2 e => by
    cases b with
    | true => exact ha G2 H2 Q e.w (s.trans e.sub) fun v d G3 H3 e3 dd f => k v d G3 H3 (e.trans W e3) dd f
    | false => exact hb G2 H2 Q e.w (s.trans e.sub) fun v d G3 H3 e3 dd f => k v d G3 H3 (e.trans W e3) dd f
theorem tb_eqI {i : Nat} {z c : Int} (hi : σ[i]? = some (some (.int z))) : TB p l σ G (tTest (tOp rEq (tVar i) (tC (.int c)))) := fun G1 H Q W s k => ⟨_, hi, rfl, _, rfl, k _ _ _ (Ext.refl W)⟩
theorem tb_draw {i : Nat} {m c : Int} (hd : σ[i]? = some (some (.ref p))) (h0 : 1 ≤ m := by decide) (h1 : m < 1000 := by decide) : TB p l σ G (tTest (tOp rEq (tCall spDraw [] E0 (tCons (tVar i) (tCons (tC (.int m)) tNil))) (tC (.int c)))) := fun G1 H Q W s k =>
  ⟨_, hd, p, l, G1, m, rfl, h0, by omega, W, fun r H1 r0 r1 e => ⟨rfl, _, rfl, k _ _ _ e⟩⟩
theorem D_st0 (T : Txt K mg) : Df P w K mg base 5 "_law_statement" ["stock", "shape", "others", "deep"] (spSt K 0) := by
  have D_l_draw := D_draw (P := P) (w := w) (base := base) T
  have D_l_simple := D_l_simple (P := P) (w := w) (base := base) T
  have D_l_test := D_l_test (P := P) (w := w) (base := base) T
  have D_l_saying := D_l_saying (P := P) (w := w) (base := base) T
  have D_l_statements := D_sts0 (P := P) (w := w) (base := base) T
  obtain ⟨f, fd, S⟩ := T.d_l_statement
  refine Df.mk' (k := 4) S sc_l_statement (fun vs H Q E h => ?_) (fun cdv A outer s H vs Q E hgd hr h => ?_)
  · obtain ⟨p, l, G, us, ds, rfl, _, da, ⟨sh, ot, a, b, c, dp, rfl, _⟩, _⟩ := h
    rw [List.length_cons, da.length]
    rfl
  · obtain ⟨p, l, G, us, ds, rfl, W, da, ⟨sh, ot, a, b, c, dp, rfl, hdp, hs, ho⟩, kk⟩ := h
    obtain ⟨v, u, x, rfl, d1, d2, d3⟩ := da.three
    cases d3
    refine ⟨_, (pss_cons (ps_set (i := 4) sc_l_statement.nd rfl (.inl rfl) (pe_d D_l_draw hgd hr (pa_cons (pv 0) (pa_cons pe_int pa_nil))))
      (pss_cons (ps_if (PW.pt (pw_or (pt_cmpR op_gt (pv 3) pe_int (nomark _)) (pw_or1 (pt_cmpR op_lt (pv 4) pe_int (nomark _))))) (pss_one (ps_ret (pe_d D_l_simple hgd hr (pa_cons (pv 0) (pa_cons (pv 1) (pa_cons (pv 2) pa_nil)))))) pss_nil)
      (pss_cons (ps_par (i := 5) (j := 6) (by rfl) sc_l_statement.nd rfl rfl (by decide) rfl rfl (pa_cons (pe_d D_l_test hgd hr (pa_cons (pv 0) (pa_cons (pv 1) pa_nil))) (pa_cons (pe_d D_l_statements hgd hr (pa_cons (pv 0) (pa_cons (pv 1) (pa_cons (pv 2) (pa_cons (pe_op op_add (pv 3) pe_int) (pa_cons pe_int pa_nil)))))) pa_nil)) (by rfl))
      (pss_cons (ps_if (pt_cmpR op_lt (pv 4) pe_int (nomark _)) (pss_one (ps_ret (pe_tup (pa_cons pe_str (pa_cons (pv 5) (pa_cons (pv 6) (pa_cons (pe_ifExp (pt_cmpR op_eq (pv 4) pe_int (nomark _)) (pe_d D_l_statements hgd hr (pa_cons (pv 0) (pa_cons (pv 1) (pa_cons (pv 2) (pa_cons (pe_op op_add (pv 3) pe_int) (pa_cons pe_int pa_nil)))))) (pe_tup pa_nil)) pa_nil))))))) pss_nil)
      (pss_cons (ps_set (i := 7) sc_l_statement.nd rfl (.inl rfl) (pe_op op_cat (pe_op op_cat (pe_op op_cat (pe_callTy call_list_of (by rfl) T.b_list (by decide +kernel) (pa_cons (pe_ix ix_tup (pv 1) pe_int (fun _ _ => rfl)) pa_nil)) (pe_callTy call_list_of (by rfl) T.b_list (by decide +kernel) (pa_cons (pe_ix ix_tup (pv 1) pe_int (fun _ _ => rfl)) pa_nil))) (pe_callTy call_list_of (by rfl) T.b_list (by decide +kernel) (pa_cons (pe_ix ix_tup (pv 1) pe_int (fun _ _ => rfl)) pa_nil))) (pe_lst (pa_cons pe_str pa_nil))))
      (pss_one (ps_ret (pe_tup (pa_cons pe_str (pa_cons (pv 5) (pa_cons (pe_ifExp (pt_cmpR op_eq (pe_d D_l_draw hgd hr (pa_cons (pv 0) (pa_cons pe_int pa_nil))) pe_int (nomark _)) pe_non (pe_d D_l_saying hgd hr (pa_cons (pv 0) (pa_cons (pv 7) (pa_cons pe_int pa_nil))))) (pa_cons (pv 6) pa_nil)))))))))))), ?_⟩
    refine ⟨_, rfl, p, l, G, 10, rfl, by decide, by decide, W, fun way H1 w0 w1 e1 => ?_⟩
    dsimp only [gName, List.set]
    refine ⟨_, rfl, _, _, rfl, rfl, _, rfl, ?_⟩
    rw [decide_eq_true (show (2 : Int) < dp by omega)]
    refine if_yes rfl (if_yes rfl ?_)
    refine TD.ret (K := K) (p := p) (l := l) (G := G) (φ := StD 0) ?h e1.w (fun v e G6 H6 x da f => kk v e G6 H6 (e1.trans W x) da f)
    refine TD.imp (td_call (φ := SimD) (tds_consP (td_is rfl d1) (tds_consP (td_is rfl d2) tds_nilP)) (fun ds h => ?_) rfl) fun d f => ?_
    · obtain ⟨_, _, rfl, e1, _, _, rfl, e2, rfl⟩ := h
      rw [e1, e2]
      exact ⟨sh, ot, a, b, c, rfl, hs, ho⟩
    · obtain ⟨z, ds, e, h⟩ := f
      exact ⟨.sim z ds, ⟨z, ds, rfl, h⟩, by rw [datS, e]⟩
theorem D_st1 (T : Txt K mg) {k n : Nat} (D_l_statements : Df P w K mg base k "_law_statements" ["stock", "shape", "others", "deep", "many"] (spSts K n 2)) (hk : 5 ≤ k) : Df P w K mg base (k + 1) "_law_statement" ["stock", "shape", "others", "deep"] (spSt K (n + 1)) := by
  have D_l_draw := (D_draw (P := P) (w := w) (base := base) T).mono (show 1 ≤ k by omega)
  have D_l_simple := (D_l_simple (P := P) (w := w) (base := base) T).mono (show 3 ≤ k by omega)
  have D_l_test := (D_l_test (P := P) (w := w) (base := base) T).mono (show 3 ≤ k by omega)
  have D_l_saying := (D_l_saying (P := P) (w := w) (base := base) T).mono (show 4 ≤ k by omega)
  obtain ⟨f, fd, S⟩ := T.d_l_statement
  refine Df.mk' (k := k) S sc_l_statement (fun vs H Q E h => ?_) (fun cdv A outer s H vs Q E hgd hr h => ?_)
  · obtain ⟨p, l, G, us, ds, rfl, _, da, ⟨sh, ot, a, b, c, dp, rfl, _⟩, _⟩ := h
    rw [List.length_cons, da.length]
    rfl
  · obtain ⟨p, l, G, us, ds, rfl, W, da, ⟨sh, ot, a, b, c, dp, rfl, hdp, hs, ho⟩, kk⟩ := h
    obtain ⟨v, u, x, rfl, d1, d2, d3⟩ := da.three
    cases d3
    refine ⟨_, (pss_cons (ps_set (i := 4) sc_l_statement.nd rfl (.inl rfl) (pe_d D_l_draw hgd hr (pa_cons (pv 0) (pa_cons pe_int pa_nil))))
      (pss_cons (ps_if (PW.pt (pw_or (pt_cmpR op_gt (pv 3) pe_int (nomark _)) (pw_or1 (pt_cmpR op_lt (pv 4) pe_int (nomark _))))) (pss_one (ps_ret (pe_d D_l_simple hgd hr (pa_cons (pv 0) (pa_cons (pv 1) (pa_cons (pv 2) pa_nil)))))) pss_nil)
      (pss_cons (ps_par (i := 5) (j := 6) (by rfl) sc_l_statement.nd rfl rfl (by decide) rfl rfl (pa_cons (pe_d D_l_test hgd hr (pa_cons (pv 0) (pa_cons (pv 1) pa_nil))) (pa_cons (pe_d D_l_statements hgd hr (pa_cons (pv 0) (pa_cons (pv 1) (pa_cons (pv 2) (pa_cons (pe_op op_add (pv 3) pe_int) (pa_cons pe_int pa_nil)))))) pa_nil)) (by rfl))
      (pss_cons (ps_if (pt_cmpR op_lt (pv 4) pe_int (nomark _)) (pss_one (ps_ret (pe_tup (pa_cons pe_str (pa_cons (pv 5) (pa_cons (pv 6) (pa_cons (pe_ifExp (pt_cmpR op_eq (pv 4) pe_int (nomark _)) (pe_d D_l_statements hgd hr (pa_cons (pv 0) (pa_cons (pv 1) (pa_cons (pv 2) (pa_cons (pe_op op_add (pv 3) pe_int) (pa_cons pe_int pa_nil)))))) (pe_tup pa_nil)) pa_nil))))))) pss_nil)
      (pss_cons (ps_set (i := 7) sc_l_statement.nd rfl (.inl rfl) (pe_op op_cat (pe_op op_cat (pe_op op_cat (pe_callTy call_list_of (by rfl) T.b_list (by decide +kernel) (pa_cons (pe_ix ix_tup (pv 1) pe_int (fun _ _ => rfl)) pa_nil)) (pe_callTy call_list_of (by rfl) T.b_list (by decide +kernel) (pa_cons (pe_ix ix_tup (pv 1) pe_int (fun _ _ => rfl)) pa_nil))) (pe_callTy call_list_of (by rfl) T.b_list (by decide +kernel) (pa_cons (pe_ix ix_tup (pv 1) pe_int (fun _ _ => rfl)) pa_nil))) (pe_lst (pa_cons pe_str pa_nil))))
      (pss_one (ps_ret (pe_tup (pa_cons pe_str (pa_cons (pv 5) (pa_cons (pe_ifExp (pt_cmpR op_eq (pe_d D_l_draw hgd hr (pa_cons (pv 0) (pa_cons pe_int pa_nil))) pe_int (nomark _)) pe_non (pe_d D_l_saying hgd hr (pa_cons (pv 0) (pa_cons (pv 7) (pa_cons pe_int pa_nil))))) (pa_cons (pv 6) pa_nil)))))))))))), ?_⟩
    refine ⟨_, rfl, p, l, G, 10, rfl, by decide, by decide, W, fun way H1 w0 w1 e1 => ?_⟩
    dsimp only [gName, List.set]
    refine ⟨_, rfl, _, _, rfl, rfl, _, rfl, ?_⟩
    rw [decide_eq_false (show ¬ (2 : Int) < dp by omega)]
    refine if_no rfl ⟨_, rfl, _, _, rfl, rfl, _, rfl, iteD (fun h7 => ?_) (fun h7 => ?_)⟩
    · refine TD.ret (K := K) (p := p) (l := l) (G := G) (φ := StD (n + 1)) ?h1 e1.w (fun v e G6 H6 x da f => kk v e G6 H6 (e1.trans W x) da f)
      refine TD.imp (td_call (φ := SimD) (tds_consP (td_is rfl d1) (tds_consP (td_is rfl d2) tds_nilP)) (fun ds h => ?_) rfl) fun d f => ?_
      · obtain ⟨_, _, rfl, e1, _, _, rfl, e2, rfl⟩ := h
        rw [e1, e2]
        exact ⟨sh, ot, a, b, c, rfl, hs, ho⟩
      · obtain ⟨z, ds, e, h⟩ := f
        exact ⟨.sim z ds, OkS.sim h _, by rw [datS, e]⟩
    dsimp only [tNext]
    have tsts : ∀ {σ' : St} {G' : Hp}, Same G G' → σ'[0]? = some (some (.ref p)) → σ'[1]? = some (some v) → σ'[2]? = some (some u) → σ'[3]? = some (some (.int dp)) → TD K p l σ' G' (tCall (spSts K n 2) [] E0 (tCons (tVar 0) (tCons (tVar 1) (tCons (tVar 2) (tCons (tOp (rI0 fun i j => .int (i + j)) (tVar 3) (tC (.int 1))) (tCons (tC (.int 3)) tNil)))))) (StsD n 2) := fun sg h0 h1 h2 h3 =>
      td_call (tds_consP (td_is h1 (d1.mono sg)) (tds_consP (td_is h2 (d2.mono sg)) (tds_consP (φ := fun x => x = .int (dp + 1)) (fun G1 H Q W s k => ⟨_, h3, _, _, rfl, rfl, k _ _ _ _ (Ext.refl W) (.int _) rfl⟩) (tds_consP (TD.flat (φ := fun x => x = .int 3) (fun _ => .int 3) rfl) tds_nilP)))) (fun ds h => by
        obtain ⟨_, _, rfl, e1, _, _, rfl, e2, _, _, rfl, e3, _, _, rfl, e4, rfl⟩ := h
        rw [e1, e2, e3, e4]
        exact ⟨sh, ot, a, b, c, dp + 1, rfl, by omega, by decide, hs, ho⟩) h0
    refine TD.app (K := K) (p := p) (l := l) (G := G) (φ := Okd 1 279) (td_call (tds_consP (td_is rfl d1) tds_nilP) (fun ds h => ?_) rfl) e1.w fun tv dt G2 H2 e2 dtv ht => ?_
    · obtain ⟨_, _, rfl, e1, rfl⟩ := h
      rw [e1]
      exact ⟨sh, a, b, c, rfl, hs⟩
    refine TD.app (K := K) (p := p) (l := l) (G := G2) (φ := StsD n 2) (tsts e2.sub rfl rfl rfl rfl) e2.w fun iv di G3 H3 e3 div hi => ?_
    obtain ⟨ss, rfl, ls, hss⟩ := hi
    refine ⟨_, _, rfl, ?_⟩
    have E3 := (e1.trans W e2).trans W e3
    have s13 := e2.sub.trans e3.sub
    have dtv := dtv.mono e3.sub
    dsimp only [gName, List.set]
    refine ⟨_, rfl, _, _, rfl, rfl, _, rfl, iteD (fun h9 => ?_) (fun h9 => ?_)⟩
    · refine TD.ret (K := K) (p := p) (l := l) (G := G3) (φ := fun x => ∃ ds, x = .tuple ds ∧ ∃ a r, ds = a :: r ∧ a = .str "if" ∧ ∃ b r2, r = b :: r2 ∧ b = dt ∧ ∃ c r3, r2 = c :: r3 ∧ c = .tuple (datL ss) ∧ ∃ e r4, r3 = e :: r4 ∧ StsD n 2 e ∧ r4 = []) ?h2 E3.w (fun v e G' H' x da f => kk v e G' H' (E3.trans W x) da ?_)
      · refine td_tupP (tds_consP (TD.flat (fun _ => .str "if") rfl) (tds_consP (td_is rfl dtv) (tds_consP (td_is rfl div) (tds_consP (td_ifB (tb_eqI rfl) (tsts s13 rfl rfl rfl rfl) ((td_tup0 (k := 0) (n := 0)).imp fun d f => ?_)) tds_nilP)))) fun ds h => ?_
        · obtain ⟨es, rfl, le, _⟩ := (f : Tp 0 0 0 d)
          have : es = [] := List.length_eq_zero_iff.mp (by omega)
          subst this
          exact ⟨[], by rw [datL], Nat.zero_le _, fun s m => absurd m List.not_mem_nil⟩
        · obtain ⟨_, _, rfl, _, _, _, rfl, _, _, _, rfl, _, _, _, rfl, _, rfl⟩ := h
          show 4 ≤ sizeLine
          decide
      · obtain ⟨_, rfl, _, _, rfl, rfl, _, _, rfl, rfl, _, _, rfl, rfl, _, _, rfl, ⟨s2, rfl, l2, h2⟩, rfl⟩ := f
        exact ⟨.ite _ ss s2, .inr (.inl ⟨_, ss, s2, rfl, ht, ls, l2, hss, h2⟩), by rw [datS]⟩
    · dsimp only [tNext]
      have d1' := d1.mono s13
      refine TD.asg (K := K) (p := p) (l := l) (G := G3) (φ := LsQ Tm 1 25) (td_catQ (td_catQ (td_catQ (td_listT (td_part (c := 0) rfl d1' hs (by decide))) (td_listT (td_part (c := 1) rfl d1' hs (by decide)))) (td_listT (td_part (c := 2) rfl d1' hs (by decide)))) (td_lstQ (tds_consF td_strT tds_nilF))) E3.w fun nv dn G4 H4 e4 dnv hn => ?_
      dsimp only [gName, List.set]
      have E4 := E3.trans W e4
      refine TD.ret (K := K) (p := p) (l := l) (G := G4) (φ := fun x => ∃ ds, x = .tuple ds ∧ ∃ a r, ds = a :: r ∧ a = .str "while" ∧ ∃ b r2, r = b :: r2 ∧ b = dt ∧ ∃ c r3, r2 = c :: r3 ∧ Okd 4 2281 c ∧ ∃ e r4, r3 = e :: r4 ∧ e = .tuple (datL ss) ∧ r4 = []) ?h3 E4.w (fun v e G' H' x da f => kk v e G' H' (E4.trans W x) da ?_)
      · refine td_tupP (tds_consP (TD.flat (fun _ => .str "while") rfl) (tds_consP (td_is rfl (dtv.mono e4.sub)) (tds_consP (td_ifB (tb_draw rfl) td_non (td_call (tds_consP (td_is rfl dnv) (tds_consP (TD.flat (φ := fun x => x = .int 2) (fun _ => .int 2) rfl) tds_nilP)) (fun ds h => ?_) rfl)) (tds_consP (td_is rfl (div.mono e4.sub)) tds_nilP)))) fun ds h => ?_
        · obtain ⟨_, _, rfl, e1, _, _, rfl, e2, rfl⟩ := h
          rw [e1, e2]
          exact ⟨dn, 2, rfl, hn.imp fun x h => h, by decide, by decide⟩
        · obtain ⟨_, _, rfl, _, _, _, rfl, _, _, _, rfl, _, _, _, rfl, _, rfl⟩ := h
          show 4 ≤ sizeLine
          decide
      · obtain ⟨_, rfl, _, _, rfl, rfl, _, _, rfl, rfl, c, _, rfl, hc, _, _, rfl, rfl, rfl⟩ := f
        exact ⟨.whl _ c ss, .inr (.inr ⟨_, c, ss, rfl, ht, hc, ls, hss⟩), by rw [datS]⟩
/-- statements of any depth to three -/
theorem D_st (T : Txt K mg) : ∀ n : Nat, Df P w K mg base (2 * n + 5) "_law_statement" ["stock", "shape", "others", "deep"] (spSt K n)
  | 0 => D_st0 T
  | n + 1 => by
    have h := D_st1 T (D_sts1 (m := 2) T (D_st T n) (by omega)) (by omega)
    exact h.mono (by omega)
theorem D_sts (T : Txt K mg) (n m : Nat) : Df P w K mg base (2 * n + 6) "_law_statements" ["stock", "shape", "others", "deep", "many"] (spSts K n m) := D_sts1 T (D_st T n) (by omega)
end
end L2.Hx

/-! Judgements that tell the very data. -/
namespace L2.Hx
open PySem PySem.Spec PyProof.Rows
abbrev TX (K : PySem.W.Frag) (p l : Addr) (σ : St) (G : Hp) (t : TE) (d : PyData) : Prop := TD K p l σ G t (fun x => x = d)
abbrev TXs (K : PySem.W.Frag) (p l : Addr) (σ : St) (G : Hp) (t : TA) (ds : List PyData) : Prop := TDs K p l σ G t (fun x => x = ds)
/-- a def of data whose value is told -/
def spF (K : PySem.W.Frag) (R : List PyData → PyData → Prop) : Sp := fun vs H Q _ => ∃ (p l : Addr) (G : Hp) (ds : List PyData) (d : PyData), Wd p l G H ∧ DaAll K G vs ds ∧ R ds d ∧ ∀ v G' H', Ext p l G H G' H' → Da K G' v d → Q v H'
abbrev rLenQ (K : PySem.W.Frag) : List V → Hp → VK → Prop := fun xs H Q => ∃ p ys, xs = [.ref p] ∧ (SqL K H p ys ∨ SqT K H p ys) ∧ Q (.int ys.length) H
section
variable {K : PySem.W.Frag} {p l : Addr} {σ : St} {G : Hp} {t ta tb te : TE} {tr : TA} {d : PyData} {ds as bs : List PyData} {i j : Int}
theorem tx_nil : TXs K p l σ G tNil [] := tds_nilP
theorem tx_cons (h : TX K p l σ G t d) (hr : TXs K p l σ G tr ds) : TXs K p l σ G (tCons t tr) (d :: ds) := fun G1 H Q W s k =>
  tds_consP h hr G1 H Q W s fun vs ds' G2 H2 e da f => by
    obtain ⟨_, _, rfl, rfl, rfl⟩ := f
    exact k _ _ _ _ e da rfl
theorem tx_of {φ : PyData → Prop} (h : TX K p l σ G t d) (hf : φ d) : TD K p l σ G t φ := h.imp fun x e => by rw [e]; exact hf
theorem tx_tup (h : TXs K p l σ G tr ds) (hz : ds.length ≤ sizeLine := by decide) : TX K p l σ G (tTup tr) (.tuple ds) := (td_tupP h fun x e => by rw [e]; exact hz).imp fun x ⟨y, e, f⟩ => by rw [e, f]
theorem tx_lst (h : TXs K p l σ G tr ds) (hz : ds.length ≤ sizeLine := by decide) : TX K p l σ G (tLst tr) (.list ds) := fun G1 H Q W s k =>
  h G1 H _ W s fun vs ds' G2 H2 e da f => by
    subst f
    exact ⟨by rw [da.length]; exact hz, fun a ha => k _ _ _ _ (e.trans W (e.w.put ha)) (.lst upd_same (da.mono (e.w.put (o := .lst vs) ha).sub)) rfl⟩
theorem tx_int : TX K p l σ G (tC (.int i)) (.int i) := TD.flat (fun _ => .int i) rfl
theorem tx_str {x : Str} : TX K p l σ G (tC (.str x)) (.str x) := TD.flat (fun _ => .str x) rfl
theorem tx_non : TX K p l σ G (tC .non) .none := TD.flat (fun _ => .non) rfl
theorem tx_cat (ha : TX K p l σ G ta (.list as)) (hb : TX K p l σ G tb (.list bs)) (hz : as.length + bs.length ≤ sizeLine) : TX K p l σ G (tOp rCat ta tb) (.list (as ++ bs)) := fun G1 H Q W s k =>
  ha G1 H _ W s fun v d G2 H2 e da f => hb G2 H2 _ e.w (s.trans e.sub) fun u d2 G3 H3 e3 da3 f3 => by
    subst f f3
    have E := e.trans W e3
    cases da with
    | @lst a xs _ t1 a1 =>
      cases da3 with
      | @lst b ys _ t2 a2 =>
        refine ⟨a, b, xs, ys, rfl, rfl, (e3.sub.trans e3.w.same) _ _ t1, e3.w.same _ _ t2, by rw [a1.length, a2.length]; omega, fun c hc => ?_⟩
        have e4 := e3.w.put (o := .lst (xs ++ ys)) hc
        exact k _ _ _ _ (E.trans W e4) (.lst upd_same ((a1.mono (e3.sub.trans e4.sub)).append (a2.mono e4.sub))) rfl
theorem tx_catA (ha : TX K p l σ G ta (.tuple as)) (hb : TX K p l σ G tb (.tuple bs)) (hz : as.length + bs.length ≤ sizeLine) : TX K p l σ G (tOp (rCatA K) ta tb) (.tuple (as ++ bs)) := fun G1 H Q W s k =>
  ha G1 H _ W s fun v d G2 H2 e da f => hb G2 H2 _ e.w (s.trans e.sub) fun u d2 G3 H3 e3 da3 f3 => by
    subst f f3
    obtain ⟨a, xs, rfl, t1, a1⟩ := da.tupI
    obtain ⟨b, ys, rfl, t2, a2⟩ := da3.tupI
    have E := e.trans W e3
    refine ⟨a, b, xs, ys, rfl, rfl, sameT (e3.sub.trans e3.w.same) t1, sameT e3.w.same t2, by rw [a1.length, a2.length]; omega, fun hx => ?_, fun hx hy => ?_, fun hx hy c hc => ?_⟩
    · subst hx
      cases a1
      exact k _ _ _ _ E da3 rfl
    · subst hy
      cases a2
      rw [List.append_nil] at k
      exact k _ _ _ _ E (da.mono e3.sub) rfl
    · have e4 := e3.w.put (o := .tup (xs ++ ys)) hc
      exact k _ _ _ _ (E.trans W e4) (.tup (SqT.of upd_same) ((a1.mono (e3.sub.trans e4.sub)).append (a2.mono e4.sub))) rfl
theorem tx_add (ha : TX K p l σ G ta (.int i)) (hb : TX K p l σ G tb (.int j)) : TX K p l σ G (tOp (rI0 fun i j => .int (i + j)) ta tb) (.int (i + j)) := fun G1 H Q W s k =>
  ha G1 H _ W s fun v d G2 H2 e da f => hb G2 H2 _ e.w (s.trans e.sub) fun u d2 G3 H3 e3 da3 f3 => by
    subst f f3
    cases da
    cases da3
    exact ⟨_, _, rfl, rfl, k _ _ _ _ (e.trans W e3) (.int _) rfl⟩
theorem tx_len (ha : TX K p l σ G ta (.list as)) : TX K p l σ G (tCB (rLenQ K) (tCons ta tNil)) (.int (as.length : Nat)) := fun G1 H Q W s k =>
  ha G1 H _ W s fun v d G2 H2 e da f => by
    subst f
    cases da with
    | @lst a xs _ t1 a1 => exact ⟨a, xs, rfl, .inl (SqL.of (e.w.same _ _ t1)), k _ _ _ _ e (by rw [a1.length]; exact .int _) rfl⟩
theorem tx_lenT (ha : TX K p l σ G ta (.tuple as)) : TX K p l σ G (tCB (rLenQ K) (tCons ta tNil)) (.int (as.length : Nat)) := fun G1 H Q W s k =>
  ha G1 H _ W s fun v d G2 H2 e da f => by
    subst f
    obtain ⟨a, xs, rfl, t1, a1⟩ := da.tupI
    exact ⟨a, xs, rfl, .inr (sameT e.w.same t1), k _ _ _ _ e (by rw [a1.length]; exact .int _) rfl⟩
theorem tx_ix {c : Nat} (ha : TX K p l σ G ta (.tuple ds)) (hc : ds[c]? = some d) : TX K p l σ G (tOp (rIxT K) ta (tC (.int (c : Int)))) d := fun G1 H Q W s k =>
  ha G1 H _ W s fun v d2 G2 H2 e da f => by
    subst f
    obtain ⟨a, xs, rfl, sq, da⟩ := da.tupI
    have hl := da.length
    have lt := (List.getElem?_eq_some_iff.mp hc).1
    have hx := List.getElem?_eq_getElem (show c < xs.length by omega)
    refine ⟨a, xs, (c : Int), xs[c]'(by omega), rfl, rfl, sameT e.w.same sq, ?_, ?_⟩
    rotate_left 1
    · obtain ⟨d2, e2, q2⟩ := da.get hx
      rw [hc] at e2
      rw [← Option.some.inj e2] at q2
      exact k _ d _ _ e q2 rfl
    unfold atI ixN
    rw [if_pos (by omega), if_pos (by omega)]
    exact hx
theorem cut_take {xs : List V} (n : Nat) : cutV xs none (some (n : Int)) = xs.take n := by
  unfold cutV
  rw [HT.sIx_none, HT.sIx_nat, List.drop_zero, Nat.sub_zero]
  rcases Nat.le_total n xs.length with h | h
  · rw [Nat.min_eq_left h]
  · rw [Nat.min_eq_right h, List.take_length, List.take_of_length_le h]
theorem tx_take (n : Nat) (ha : TX K p l σ G ta (.tuple as)) : TX K p l σ G (tSl (rSlA K) ta tNoPart (tPart (tC (.int (n : Int))))) (.tuple (as.take n)) := fun G1 H Q W s k =>
  ha G1 H _ W s fun v d G2 H2 e da f => by
    subst f
    obtain ⟨a, xs, rfl, t1, a1⟩ := da.tupI
    refine ⟨_, rfl, a, xs, rfl, sameT e.w.same t1, fun hw => ?_, fun _ c hc => ?_⟩
    · have hw := hw.2
      rw [HT.sIx_nat] at hw
      refine k _ _ _ _ e da ?_
      rw [List.take_of_length_le (by rw [← a1.length]; omega)]
    · rw [cut_take]
      have e4 := e.w.put (o := .tup (xs.take n)) hc
      exact k _ _ _ _ (e.trans W e4) (.tup (SqT.of upd_same) ((a1.take n).mono e4.sub)) rfl
theorem tx_call {R : List PyData → PyData → Prop} (h : TXs K p l σ G tr ds) (hR : R ds d) : TX K p l σ G (tCall (spF K R) [] E0 tr) d := fun G1 H Q W s k =>
  h G1 H _ W s fun vs ds' G2 H2 e da f => by
    subst f
    exact ⟨p, l, G2, ds', d, e.w, by rw [List.append_nil]; exact da, hR, fun v G3 H3 e3 dd => k v d G3 H3 (e.trans W e3) dd rfl⟩
theorem da_ints : ∀ {vs : List V} {ns : List Int}, DaAll K G vs (ns.map .int) → vs = ns.map V.int
  | _, [], .nil => rfl
  | _, n :: ns, .cons h t => by
    cases h
    rw [da_ints t]
    rfl
theorem tx_sum {ns : List Int} (ha : TX K p l σ G ta (.list (ns.map .int))) : TX K p l σ G (tCB (rSum K) (tCons ta tNil)) (.int ns.sum) := fun G1 H Q W s k =>
  ha G1 H _ W s fun v d G2 H2 e da f => by
    subst f
    cases da with
    | @lst a xs _ t1 a1 =>
      rw [da_ints a1] at t1
      exact ⟨a, ns, rfl, SqL.of (e.w.same _ _ t1), k _ _ _ _ e (.int _) rfl⟩
theorem tx_tupOfL (ha : TX K p l σ G ta (.list as)) : TX K p l σ G (tCB (rTpOf K) (tCons ta tNil)) (.tuple as) := fun G1 H Q W s k =>
  ha G1 H _ W s fun v d G2 H2 e da f => by
    subst f
    cases da with
    | @lst a xs _ t1 a1 =>
      refine ⟨a, xs, rfl, .inl ⟨SqL.of (e.w.same _ _ t1), fun q hq => ?_⟩⟩
      have e4 := e.w.put (o := .tup xs) hq
      exact k _ _ _ _ (e.trans W e4) (.tup (SqT.of upd_same) (a1.mono e4.sub)) rfl
/-- one turn of a block over held data -/
def Turn (K : PySem.W.Frag) (p l : Addr) (σ : St) (G : Hp) (g : TG) (te : TE) (vs : List Nat) (d d' : PyData) : Prop := ∀ (x : V) (G1 H : Hp) (R : VK), Da K G1 x d → Wd p l G1 H → Same G G1 → (∀ v G2 H2, Ext p l G1 H G2 H2 → Da K G2 v d' → R v H2) → g x (wipe σ vs) H fun σ2 H2 => wipe σ2 vs = wipe σ vs ∧ te σ2 H2 R
theorem tx_lc_core {g : TG} {vs : List Nat} {α : Type} {ss : List α} {A B : α → PyData} {xs : List V} {G1 H1 : Hp} {Q : VK} {D : Addr} (W : Wd p l G1 H1) (s : Same G G1) (dx : DaAll K G1 xs (ss.map A)) (hz : ss.length < sizeLine) (ht : ∀ s ∈ ss, Turn K p l σ G g te vs (A s) (B s)) (hD : H1 D = none)
    (k : ∀ v d G2 H2, Ext p l G1 H1 G2 H2 → Da K G2 v d → d = .list (ss.map B) → Q v H2) :
    ∃ Pv : Nat → Hp → Prop, Pv 0 (upd H1 D (.lst [])) ∧ (∀ i H, Pv i H → ∃ G3, Wd p l G3 H ∧ Same G1 G3) ∧ (∀ i x H, xs[i]? = some x → Pv i H → g x (wipe σ vs) H fun σ2 H2 => wipe σ2 vs = wipe σ vs ∧ tYes σ2 H2 fun b H3 =>
      if b = true then te σ2 H3 fun y H4 => ∃ acc, H4 D = some (.lst acc) ∧ acc.length < sizeLine ∧ Pv (i + 1) (upd H4 D (.lst (acc ++ [y]))) else Pv (i + 1) H3) ∧ ∀ H, Pv xs.length H → Q (.ref D) H := by
  have nDp := W.np hD
  have nDl := W.nl hD
  have E1 := W.tmp (o := .lst []) hD
  refine ⟨fun i H3 => ∃ G3 ys, Wd p l G3 H3 ∧ Same G1 G3 ∧ G3 D = none ∧ H3 D = some (.lst ys) ∧ DaAll K G3 ys ((ss.take i).map B) ∧
        (∀ b o, b ≠ p → b ≠ l → b ≠ D → H1 b = some o → H3 b = some o) ∧ (∀ b o, H1 b = some o → G1 b = none → G3 b = none),
      ⟨G1, [], E1.w, Same.refl _, W.same.free hD, upd_same, .nil, fun b o n1 n2 n3 q => by rw [upd_ne n3]; exact q, fun b o _ g => g⟩, fun i H ⟨G3, _, w3, s3, _⟩ => ⟨G3, w3, s3⟩, ?_, ?_⟩
  · rintro i x H3 hx ⟨G3, ys, w3, s3, gD, hD3, da3, k3, n3⟩
    obtain ⟨d, hd, dd⟩ := dx.get hx
    rw [List.getElem?_map] at hd
    obtain ⟨z, hq, rfl⟩ := Option.map_eq_some_iff.mp hd
    have lt := (List.getElem?_eq_some_iff.mp hq).1
    refine ht z (List.mem_of_getElem? hq) x G3 H3 _ (dd.mono s3) w3 (s.trans s3) fun v G4 H4 e4 da4 => ?_
    have hD4 : H4 D = some (.lst ys) := e4.keep _ _ nDp nDl hD3
    have gD4 : G4 D = none := e4.new _ _ hD3 gD
    have hl := da3.length
    rw [List.length_map, List.length_take] at hl
    refine ⟨ys, hD4, by omega, G4, ys ++ [v], e4.w.own nDp nDl gD4, s3.trans e4.sub, gD4, upd_same, ?_, fun b o n1 n2 n4 q => ?_, fun b o q g => ?_⟩
    · rw [List.take_succ, hq]
      show DaAll K G4 _ ((ss.take i ++ [z]).map B)
      rw [List.map_append]
      exact (da3.mono e4.sub).append (.cons da4 .nil)
    · rw [upd_ne n4]
      exact e4.keep _ _ n1 n2 (k3 b o n1 n2 n4 q)
    · have g3 := n3 b o q g
      by_cases b1 : b = p
      · subst b1
        exact e4.w.gp
      · by_cases b2 : b = l
        · subst b2
          exact e4.w.gl
        · exact e4.new b o (k3 b o b1 b2 (ne_of_none q hD) q) g3
  · rintro H3 ⟨G3, ys, w3, s3, gD, hD3, da3, k3, n3⟩
    obtain ⟨w4, s4⟩ := w3.hold nDp nDl gD hD3
    have E2 : Ext p l G1 H1 (upd G3 D (.lst ys)) H3 := ⟨w4, s3.trans s4, fun b o n1 n2 q => k3 b o n1 n2 (ne_of_none q hD) q, fun b o q g => by
      rw [upd_ne (ne_of_none q hD)]
      exact n3 b o q g⟩
    rw [dx.length, List.length_map, List.take_length] at da3
    exact k _ _ _ _ E2 (.lst upd_same (da3.mono s4)) rfl
theorem tx_lcL {g : TG} {vs : List Nat} {α : Type} {ss : List α} {A B : α → PyData} (ha : TX K p l σ G ta (.list (ss.map A))) (hz : ss.length < sizeLine) (ht : ∀ s ∈ ss, Turn K p l σ G g te vs (A s) (B s)) : TX K p l σ G (tLc (iList K ta) g tYes te vs) (.list (ss.map B)) := fun G1 H Q W s k =>
  ha G1 H _ W s fun v d G2 H2 e da ff => by
    subst ff
    cases da with
    | @lst a xs _ t1 a1 =>
      refine ⟨a, rfl, ⟨xs, SqL.of (e.w.same _ _ t1)⟩, fun D hD => ?_⟩
      obtain ⟨Pv, h0, h1, h2, h3⟩ := tx_lc_core (σ := σ) (Q := Q) e.w (s.trans e.sub) a1 hz ht hD fun v d G3 H3 e3 => k v d G3 H3 (e.trans W e3)
      exact lc_list (Qd := Q (.ref D)) Pv h0 (fun i H hi q => let ⟨G3, w3, s3⟩ := h1 i H q; SqL.of (w3.same _ _ (s3 _ _ t1))) h2 h3
theorem tx_lcT {g : TG} {vs : List Nat} {α : Type} {ss : List α} {A B : α → PyData} (ha : TX K p l σ G ta (.tuple (ss.map A))) (hz : ss.length < sizeLine) (ht : ∀ s ∈ ss, Turn K p l σ G g te vs (A s) (B s)) : TX K p l σ G (tLc (iTup K ta) g tYes te vs) (.list (ss.map B)) := fun G1 H Q W s k =>
  ha G1 H _ W s fun v d G2 H2 e da ff => by
    subst ff
    obtain ⟨a, xs, rfl, t1, a1⟩ := da.tupI
    refine ⟨a, rfl, ⟨xs, sameT e.w.same t1⟩, fun D hD => ?_⟩
    obtain ⟨Pv, h0, h1, h2, h3⟩ := tx_lc_core (σ := σ) (Q := Q) e.w (s.trans e.sub) a1 hz ht hD fun v d G3 H3 e3 => k v d G3 H3 (e.trans W e3)
    exact lc_tup (Qd := Q (.ref D)) Pv h0 (fun i H hi q => let ⟨G3, w3, s3⟩ := h1 i H q; sameT (s3.trans w3.same) t1) h2 h3
theorem tx_ifS {z c : Str} {te : TE} (he : TX K p l σ G te (.str z)) (ha : z = c → TX K p l σ G ta d) (hb : z ≠ c → TX K p l σ G tb d) : TX K p l σ G (tIf (tTest (tOp rEq te (tC (.str c)))) ta tb) d := fun G1 H Q W s k =>
  he G1 H _ W s fun v d2 G2 H2 e da f => by
    subst f
    cases da
    refine ⟨rfl, _, rfl, ?_⟩
    rw [show decide (V.str z = V.str c) = decide (z = c) from decide_eq_decide.mpr ⟨fun h => by injection h, fun h => by rw [h]⟩]
    by_cases h : z = c
    · rw [decide_eq_true h]
      exact ha h G2 H2 Q e.w (s.trans e.sub) fun v d G3 H3 e3 dd f => k v d G3 H3 (e.trans W e3) dd f
    · rw [decide_eq_false h]
      exact hb h G2 H2 Q e.w (s.trans e.sub) fun v d G3 H3 e3 dd f => k v d G3 H3 (e.trans W e3) dd f
end
end L2.Hx

/-! How many statements; a function. -/
namespace L2.Hx
open PySem PySem.Spec PyProof.Rows
def inn : Sx → List Sx
  | .sim _ _ => []
  | .ite _ a b => a ++ b
  | .whl _ _ a => a
def OkR : Nat → List Sx → Prop
  | 0, ss => ss = []
  | r + 1, ss => ss.length ≤ 40 ∧ ∀ s ∈ ss, OkS r s
def szR : Nat → List Sx → Int
  | 0, _ => 0
  | r + 1, ss => (ss.length : Int) + (ss.map fun s => szR r (inn s)).sum
theorem inn_ok : ∀ {r : Nat} {s : Sx}, OkS r s → OkR r (inn s)
  | 0, s, h => by
    obtain ⟨w, ds, rfl, h⟩ := h
    rfl
  | n + 1, s, h => by
    rcases h with ⟨w, ds, rfl, h⟩ | ⟨t, a, b, rfl, h1, h2, h3, h4, h5⟩ | ⟨t, k, a, rfl, h1, h2, h3, h4⟩
    · exact ⟨Nat.zero_le _, fun x m => absurd m List.not_mem_nil⟩
    · refine ⟨?_, fun x m => ?_⟩
      · show (a ++ b).length ≤ 40
        rw [List.length_append]
        omega
      · rcases List.mem_append.mp m with m | m
        · exact h4 x m
        · exact h5 x m
    · exact ⟨by show a.length ≤ 40; omega, h4⟩
def spSz (K : PySem.W.Frag) : Nat → Sp
  | 0 => spNo
  | r + 1 => spF K fun ds d => ∃ ss, ds = [.tuple (datL ss)] ∧ OkR r ss ∧ d = .int (szR r ss)
theorem DaAll.one' {K : PySem.W.Frag} {G : Hp} {us : List V} {d : PyData} (h : DaAll K G us [d]) : ∃ v, us = [v] ∧ Da K G v d := h.one
section
variable {P : Program} {w : World} {K : PySem.W.Frag} {mg : Str → Option Value} {base : Heap} {p l : Addr} {σ : St} {G : Hp} {φ ψ : PyData → Prop} {t ta tb te : TE} {tt : TT} {tr : TA} {m : Nat}
theorem D_size1 (T : Txt K mg) {k r : Nat} (D_l_size : Df P w K mg base k "_law_size" ["statements"] (spSz K r)) : Df P w K mg base (k + 1) "_law_size" ["statements"] (spSz K (r + 1)) := by
  obtain ⟨f, fd, S⟩ := T.d_l_size
  refine Df.mk' (k := k) S sc_l_size (fun vs H Q E h => ?_) (fun cdv A outer s H vs Q E hgd hr h => ?_)
  · obtain ⟨p, l, G, ds, d, _, da, ⟨ss, rfl, _⟩, _⟩ := h
    rw [da.length]
    rfl
  · obtain ⟨p, l, G, ds, d, W, da, ⟨ss, rfl, hs, rfl⟩, kk⟩ := h
    obtain ⟨v, rfl, d1⟩ := da.one
    refine ⟨_, (pss_cons (ps_setLc (i := 1) (X := (cxOf CX0 P w K mg base ["statements", "inner", "own"] "_law_size" (defScope s_l_size) f cdv A outer s H E).nox) (own := [("own", 2)]) (te := tIf (tTest (tOp rEq (tOp (rIxT K) (tVar 2) (tC (.int 0))) (tC (.str "if")))) (tOp (rCatA K) (tOp (rIxT K) (tVar 2) (tC (.int 2))) (tOp (rIxT K) (tVar 2) (tC (.int 3)))) (tIf (tTest (tOp rEq (tOp (rIxT K) (tVar 2) (tC (.int 0))) (tC (.str "while")))) (tOp (rIxT K) (tVar 2) (tC (.int 3))) (tTup tNil))) (g := gName 2) (tt := tYes) rfl sc_l_size.nd rfl rfl (sw_true rfl rfl rfl (by decide +kernel)) (pi_tup (pv 0)) (blkOk_by (own := [("own", 2)]) (N := ["statements", "inner", "own"]) (sc := defScope s_l_size) (by decide +kernel)) (fun _ _ _ _ _ => pg_name (i := 2) sc_l_size.nd rfl (.inl rfl)) (fun _ _ _ _ _ => pts_nil) (fun _ _ _ _ _ => (pe_ifExp (pt_cmpR op_eq (pe_ix ix_tup (pv 2) pe_int (fun _ _ => rfl)) pe_str (nomark _)) (pe_op op_catA (pe_ix ix_tup (pv 2) pe_int (fun _ _ => rfl)) (pe_ix ix_tup (pv 2) pe_int (fun _ _ => rfl))) (pe_ifExp (pt_cmpR op_eq (pe_ix ix_tup (pv 2) pe_int (fun _ _ => rfl)) pe_str (nomark _)) (pe_ix ix_tup (pv 2) pe_int (fun _ _ => rfl)) (pe_tup pa_nil)))))
      (pss_one (ps_ret (pe_op op_add (pe_callB call_len_seq (by rfl) T.b_len (by decide +kernel) (pa_cons (pv 0) pa_nil)) (pe_callB (cr_sum rfl) (by rfl) T.b_sum (by decide +kernel) (pa_cons (pe_lc (X := (cxOf CX0 P w K mg base ["statements", "inner", "own"] "_law_size" (defScope s_l_size) f cdv A outer s H E).nox) (own := [("own", 2)]) (te := tCall (spSz K r) [] E0 (tCons (tVar 2) tNil)) (g := gName 2) (tt := tYes) rfl sc_l_size.nd (pi_list (pv 1)) (blkOk_by (own := [("own", 2)]) (N := ["statements", "inner", "own"]) (sc := defScope s_l_size) (by decide +kernel)) (fun _ _ _ _ _ => pg_name (i := 2) sc_l_size.nd rfl (.inl rfl)) (fun _ _ _ _ _ => pts_nil) (fun _ _ _ _ _ => (pe_d D_l_size hgd hr (pa_cons (pv 2) pa_nil)))) pa_nil)))))), ?_⟩
    have big : (1000 : Nat) ≤ sizeLine := by decide
    have d1 : Da K G v (.tuple (ss.map datS)) := by
      rw [← datL_map]
      exact d1
    have lz : ss.length ≤ 40 := by
      cases r with
      | zero =>
        rw [show ss = [] from hs]
        exact Nat.zero_le _
      | succ q => exact hs.1
    refine TD.asg (K := K) (p := p) (l := l) (G := G) (φ := fun x => x = .list (ss.map fun s => .tuple ((inn s).map datS))) (tx_lcT (A := datS) (B := fun s => .tuple ((inn s).map datS)) (td_is rfl d1) (by omega) fun s ms x G1 H1 R dx W1 s1 kR => ?_) W fun v2 d2 G2 H2 e2 da2 f2 => ?_
    · refine ⟨rfl, ?_⟩
      cases r with
      | zero =>
        rw [show ss = [] from hs] at ms
        exact absurd ms List.not_mem_nil
      | succ q =>
        have ho := hs.2 s ms
        refine (show TX K p l _ G1 _ (.tuple ((inn s).map datS)) from ?_) G1 H1 R W1 (Same.refl _) fun v d G3 H3 e3 dd f => kR v G3 H3 e3 (by subst f; exact dd)
        cases s with
        | sim w ds =>
          have hw : SimOk w ds := by
            cases q with
            | zero =>
              obtain ⟨_, _, e, h⟩ := ho
              cases e
              exact h
            | succ q =>
              rcases ho with ⟨_, _, e, h⟩ | ⟨_, _, _, e, _⟩ | ⟨_, _, _, e, _⟩
              · cases e
                exact h
              · cases e
              · cases e
          rw [datS] at dx
          refine tx_ifS (z := w) (tx_ix (td_is rfl dx) rfl) (fun e => absurd e hw.nif) fun _ => tx_ifS (z := w) (tx_ix (td_is rfl dx) rfl) (fun e => absurd e hw.nwh) fun _ => ?_
          exact tx_tup (ds := []) tx_nil
        | ite t a b =>
          have hl : a.length ≤ 2 ∧ b.length ≤ 2 := by
            cases q with
            | zero =>
              obtain ⟨_, _, e, h⟩ := ho
              cases e
            | succ q =>
              rcases ho with ⟨_, _, e, h⟩ | ⟨_, _, _, e, _, h1, h2, _⟩ | ⟨_, _, _, e, _⟩
              · cases e
              · cases e
                exact ⟨h1, h2⟩
              · cases e
          rw [datS] at dx
          refine tx_ifS (z := "if") (tx_ix (td_is rfl dx) rfl) (fun _ => ?_) fun e => absurd rfl e
          show TX K p l _ G1 _ (.tuple ((a ++ b).map datS))
          rw [List.map_append, ← datL_map, ← datL_map]
          exact tx_catA (tx_ix (c := 2) (td_is rfl dx) rfl) (tx_ix (c := 3) (td_is rfl dx) rfl) (by rw [datL_map, datL_map, List.length_map, List.length_map]; omega)
        | whl t k a =>
          rw [datS] at dx
          refine tx_ifS (z := "while") (tx_ix (td_is rfl dx) rfl) (fun e => absurd e (by decide)) fun _ => tx_ifS (z := "while") (tx_ix (td_is rfl dx) rfl) (fun _ => ?_) fun e => absurd rfl e
          show TX K p l _ G1 _ (.tuple (a.map datS))
          rw [← datL_map]
          exact tx_ix (c := 3) (td_is rfl dx) rfl
    · subst f2
      dsimp only [gName, List.set]
      refine TD.ret (K := K) (p := p) (l := l) (G := G2) (φ := fun x => x = .int (szR r ss)) ?_ e2.w (fun v e G' H' x da f => kk v G' H' (e2.trans W x) (by subst f; exact da))
      have ev : szR r ss = (((ss.map datS).length : Nat) : Int) + (ss.map fun s => szR (r - 1) (inn s)).sum := by
        rw [List.length_map]
        cases r with
        | zero =>
          rw [show ss = [] from hs]
          rfl
        | succ q => rfl
      rw [ev]
      refine tx_add (tx_lenT (td_is rfl (d1.mono e2.sub))) (tx_sum ?_)
      rw [List.map_map]
      refine tx_lcL (A := fun s => .tuple ((inn s).map datS)) (B := fun s => .int (szR (r - 1) (inn s))) (td_is rfl da2) (by omega) fun s ms x G1 H1 R dx W1 s1 kR => ⟨rfl, ?_⟩
      cases r with
      | zero =>
        rw [show ss = [] from hs] at ms
        exact absurd ms List.not_mem_nil
      | succ q =>
        rw [← datL_map] at dx
        exact (show TX K p l _ G1 _ _ from tx_call (tx_cons (td_is rfl dx) tx_nil) ⟨inn s, rfl, inn_ok (hs.2 s ms), rfl⟩) G1 H1 R W1 (Same.refl _) fun v d G3 H3 e3 dd f => kR v G3 H3 e3 (by subst f; exact dd)
theorem D_size (T : Txt K mg) : ∀ r : Nat, Df P w K mg base r "_law_size" ["statements"] (spSz K r)
  | 0 => by
    obtain ⟨f, fd, S⟩ := T.d_l_size
    exact ⟨f, fd, ⟨fun vs H Q E h => absurd h id, fun _ _ _ _ _ _ _ _ _ _ _ _ _ _ h => absurd h id⟩, S.at_, S.fn.kp, S.bd⟩
  | r + 1 => D_size1 T (D_size T r)
end
end L2.Hx

/-! A function of the law. -/
namespace L2.Hx
open PySem PySem.Spec PyProof.Rows
abbrev Few (a : List PyData) : Prop := a.length ≤ 8 ∧ ∀ x ∈ a, Tm x
def FunD (m : Nat) (a b c : List PyData) (d : PyData) : Prop := ∃ (z : Str) (h f : PyData) (ss : List Sx), d = .tuple [.str z, .tuple a, .tuple b, .tuple c, h, f, .tuple (datL ss)] ∧ Tm (.str z) ∧ Few a ∧ Few b ∧ Few c ∧ Okd 4 2281 h ∧ Okd 4 2281 f ∧ ss.length ≤ m ∧ ∀ s ∈ ss, OkS 3 s
abbrev A3 := List PyData × List PyData × List PyData
/-- what is told may lean on what is given -/
def spG2 (K : PySem.W.Frag) {α : Type} (Ψ : α → List PyData → Prop) (φ : α → PyData → Prop) : Sp := fun vs H Q _ => ∃ (p l : Addr) (G : Hp) (us : List V) (ds : List PyData) (x : α), vs = .ref p :: us ∧ Wd p l G H ∧ DaAll K G us ds ∧ Ψ x ds ∧ ∀ v d G' H', Ext p l G H G' H' → Da K G' v d → φ x d → Q v H'
def spFun (K : PySem.W.Frag) (m : Nat) : Sp := spG2 K (fun (x : A3) ds => ∃ (z : Str) (sh ot : PyData), ds = [.str z, sh, ot, .int ((m : Int) + 1)] ∧ Tm (.str z) ∧ ShapeD x.1 x.2.1 x.2.2 sh ∧ OthD ot ∧ 1 ≤ m ∧ m ≤ 40) (fun x d => FunD m x.1 x.2.1 x.2.2 d)
theorem td_call2 {K : PySem.W.Frag} {p l : Addr} {σ : St} {G : Hp} {α : Type} {Ψ : α → List PyData → Prop} {φ : α → PyData → Prop} {tr : TA} {Φ : List PyData → Prop} {i : Nat} (x : α) (h : TDs K p l σ G tr Φ) (hΨ : ∀ ds, Φ ds → Ψ x ds) (hd : σ[i]? = some (some (.ref p))) : TD K p l σ G (tCall (spG2 K Ψ φ) [] E0 (tCons (tVar i) tr)) (φ x) := fun G1 H Q W s k =>
  ⟨_, hd, h G1 H _ W s fun vs ds G2 H2 e da f => ⟨p, l, G2, vs, ds, x, by rw [List.append_nil], e.w, da, hΨ ds f, fun v d G3 H3 e3 dd ff => k v d G3 H3 (e.trans W e3) dd ff⟩⟩
section
variable {P : Program} {w : World} {K : PySem.W.Frag} {mg : Str → Option Value} {base : Heap} {p l : Addr} {σ : St} {G : Hp} {φ ψ : PyData → Prop} {t ta tb te : TE} {tt : TT} {tr : TA} {m : Nat}
theorem tb_lt {i c : Int} (ha : TX K p l σ G ta (.int i)) : TB p l σ G (tTest (tOp (rI0 fun i j => V.bl (decide (i < j))) ta (tC (.int c)))) := fun G1 H Q W s k =>
  ha G1 H _ W s fun v d G2 H2 e da f => by
    subst f
    cases da
    exact ⟨_, _, rfl, rfl, _, rfl, k _ _ _ e⟩
theorem D_fun (T : Txt K mg) (m : Nat) : Df P w K mg base 13 "_law_function" ["stock", "name", "shape", "others", "many"] (spFun K m) := by
  have D_l_simple := (D_l_simple (P := P) (w := w) (base := base) T).mono (show 3 ≤ 12 by omega)
  have D_l_saying := (D_l_saying (P := P) (w := w) (base := base) T).mono (show 4 ≤ 12 by omega)
  have D_l_statements := D_sts (P := P) (w := w) (base := base) T 3 m
  have D_l_size := (D_size (P := P) (w := w) (base := base) T 5).mono (show 5 ≤ 12 by omega)
  obtain ⟨f, fd, S⟩ := T.d_l_function
  refine Df.mk' (k := 12) S sc_l_function (fun vs H Q E h => ?_) (fun cdv A outer s H vs Q E hgd hr h => ?_)
  · obtain ⟨p, l, G, us, ds, x, rfl, _, da, ⟨z, sh, ot, rfl, _⟩, _⟩ := h
    rw [List.length_cons, da.length]
    rfl
  · obtain ⟨p, l, G, us, ds, ⟨a, b, c⟩, rfl, W, da, ⟨z, sh, ot, rfl, hz, hs, ho, hm1, hm2⟩, kk⟩ := h
    have hs : ShapeD a b c sh := hs
    obtain ⟨v0, u, x, y, rfl, d0, d1, d2, d3⟩ := da.four
    cases d0
    cases d3
    refine ⟨_, (pss_cons (ps_set (i := 5) sc_l_function.nd rfl (.inl rfl) (pe_op op_cat (pe_callTy call_list_of (by rfl) T.b_list (by decide +kernel) (pa_cons (pe_ix ix_tup (pv 2) pe_int (fun _ _ => rfl)) pa_nil)) (pe_callTy call_list_of (by rfl) T.b_list (by decide +kernel) (pa_cons (pe_ix ix_tup (pv 2) pe_int (fun _ _ => rfl)) pa_nil))))
      (pss_cons (ps_set (i := 6) sc_l_function.nd rfl (.inl rfl) (pe_d D_l_saying hgd hr (pa_cons (pv 0) (pa_cons (pv 5) (pa_cons pe_int pa_nil)))))
      (pss_cons (ps_set (i := 7) sc_l_function.nd rfl (.inl rfl) (pe_d D_l_saying hgd hr (pa_cons (pv 0) (pa_cons (pe_op op_cat (pv 5) (pe_lst (pa_cons pe_str pa_nil))) (pa_cons pe_int pa_nil)))))
      (pss_cons (ps_set (i := 8) sc_l_function.nd rfl (.inl rfl) (pe_d D_l_statements hgd hr (pa_cons (pv 0) (pa_cons (pv 2) (pa_cons (pv 3) (pa_cons pe_int (pa_cons (pv 4) pa_nil)))))))
      (pss_cons (ps_set (i := 8) sc_l_function.nd rfl (.inl rfl) (pe_ifExp (pt_cmpR op_lt (pe_d D_l_size hgd hr (pa_cons (pv 8) pa_nil)) pe_int (nomark _)) (pv 8) (pe_tup (pa_cons (pe_d D_l_simple hgd hr (pa_cons (pv 0) (pa_cons (pv 2) (pa_cons (pv 3) pa_nil)))) pa_nil))))
      (pss_one (ps_ret (pe_tup (pa_cons (pv 1) (pa_cons (pe_ix ix_tup (pv 2) pe_int (fun _ _ => rfl)) (pa_cons (pe_ix ix_tup (pv 2) pe_int (fun _ _ => rfl)) (pa_cons (pe_ix ix_tup (pv 2) pe_int (fun _ _ => rfl)) (pa_cons (pv 6) (pa_cons (pv 7) (pa_cons (pv 8) pa_nil))))))))))))))), ?_⟩
    refine TD.asg (K := K) (p := p) (l := l) (G := G) (φ := LsQ Tm 0 16) (td_catQ (td_listT (td_part (c := 0) rfl d1 hs (by decide))) (td_listT (td_part (c := 1) rfl d1 hs (by decide)))) W fun gv dg G1 H1 e1 dgv hg => ?_
    refine TD.asg (K := K) (p := p) (l := l) (G := G1) (φ := Okd 4 2281) (td_call (tds_consP (td_is rfl dgv) (tds_consP (TD.flat (φ := fun x => x = .int 1) (fun _ => .int 1) rfl) tds_nilP)) (fun ds h => ?_) rfl) e1.w fun hv dh G2 H2 e2 dhv hh => ?_
    · obtain ⟨_, _, rfl, e1, _, _, rfl, e2, rfl⟩ := h
      rw [e1, e2]
      exact ⟨dg, 1, rfl, hg.imp fun x h => h, by decide, by decide⟩
    have dgv := dgv.mono e2.sub
    have E2 := e1.trans W e2
    refine TD.asg (K := K) (p := p) (l := l) (G := G2) (φ := Okd 4 2281) (td_call (tds_consP (td_catQ (m2 := 1) (lo2 := 1) (td_var (φ := LsQ Tm 0 16) rfl dgv hg) (td_lstQ (tds_consF td_strT tds_nilF))) (tds_consP (TD.flat (φ := fun x => x = .int 2) (fun _ => .int 2) rfl) tds_nilP)) (fun ds h => ?_) rfl) E2.w fun fv df G3 H3 e3 dfv hf => ?_
    · obtain ⟨dn, _, rfl, hn, _, _, rfl, e2, rfl⟩ := h
      rw [e2]
      exact ⟨dn, 2, rfl, hn.imp fun x h => h, by decide, by decide⟩
    have E3 := E2.trans W e3
    have s3 := e1.sub.trans (e2.sub.trans e3.sub)
    refine TD.asg (K := K) (p := p) (l := l) (G := G3) (φ := StsD 3 m) (td_call (tds_consP (td_is rfl (d1.mono s3)) (tds_consP (td_is rfl (d2.mono s3)) (tds_consP (TD.flat (φ := fun x => x = .int 0) (fun _ => .int 0) rfl) (tds_consP (td_is rfl (.int ((m : Int) + 1))) tds_nilP)))) (fun ds h => ?_) rfl) E3.w fun bv db G4 H4 e4 dbv hb => ?_
    · obtain ⟨_, _, rfl, e1, _, _, rfl, e2, _, _, rfl, e3, _, _, rfl, e4, rfl⟩ := h
      rw [e1, e2, e3, e4]
      exact ⟨sh, ot, a, b, c, 0, rfl, by omega, by omega, hs, ho⟩
    have E4 := E3.trans W e4
    have s4 := s3.trans e4.sub
    obtain ⟨ss, rfl, ls, hss⟩ := hb
    dsimp only [gName, List.set]
    refine TD.asg (K := K) (p := p) (l := l) (G := G4) (φ := StsD 3 m) (td_ifB ?tb (td_var rfl dbv ⟨ss, rfl, ls, hss⟩) ?els) E4.w fun bv2 db2 G5 H5 e5 dbv2 hb2 => ?_
    case tb =>
      have dbv : Da K G4 bv (.tuple (datL ss)) := dbv
      exact tb_lt (i := szR 4 ss) (tx_call (tx_cons (td_is rfl dbv) tx_nil) ⟨ss, rfl, ⟨by omega, hss⟩, rfl⟩)
    case els =>
      refine TD.imp (td_tupP (tds_consP (td_call (φ := SimD) (tds_consP (td_is rfl (d1.mono s4)) (tds_consP (td_is rfl (d2.mono s4)) tds_nilP)) (fun ds h => ?_) rfl) tds_nilP) fun ds h => ?_) fun d f => ?_
      · obtain ⟨_, _, rfl, e1, _, _, rfl, e2, rfl⟩ := h
        rw [e1, e2]
        exact ⟨sh, ot, a, b, c, rfl, hs, ho⟩
      · obtain ⟨_, _, rfl, _, rfl⟩ := h
        show 1 ≤ sizeLine
        decide
      · obtain ⟨_, rfl, _, _, rfl, ⟨w, ds, rfl, h⟩, rfl⟩ := f
        exact ⟨[.sim w ds], by rw [datL, datL, datS], hm1, fun s m => by
          rw [List.mem_singleton.mp m]
          exact OkS.sim h 3⟩
    have E5 := E4.trans W e5
    have s5 := s4.trans e5.sub
    have s35 := e4.sub.trans e5.sub
    obtain ⟨s2, rfl, l2, h2⟩ := hb2
    obtain ⟨rfl, ha1, hb1, hc1⟩ := hs
    dsimp only [gName, List.set]
    refine TD.ret (K := K) (p := p) (l := l) (G := G5) (φ := fun x => x = .tuple [.str z, .tuple a, .tuple b, .tuple c, dh, df, .tuple (datL s2)]) ?_ E5.w (fun v e G' H' x da f => kk v e G' H' (E5.trans W x) da ?_)
    · exact tx_tup (tx_cons (td_is rfl (.str z)) (tx_cons (tx_ix (c := 0) (td_is rfl (d1.mono s5)) rfl) (tx_cons (tx_ix (c := 1) (td_is rfl (d1.mono s5)) rfl) (tx_cons (tx_ix (c := 2) (td_is rfl (d1.mono s5)) rfl) (tx_cons (td_is rfl (dhv.mono (e3.sub.trans s35))) (tx_cons (td_is rfl (dfv.mono s35)) (tx_cons (td_is rfl dbv2) tx_nil))))))) (by show 7 ≤ sizeLine; decide)
    · rw [f]
      exact ⟨z, dh, df, s2, rfl, hz, ha1, hb1, hc1, hh, hf, l2, h2⟩
end
end L2.Hx

/-! All statements with their ways, plainly. -/
namespace L2.Hx
open PySem PySem.Spec PyProof.Rows
abbrev Wr := List Int × PyData
mutual
def wlS : Sx → List Int → List Wr
  | .sim w ds, y => [(y, datS (.sim w ds))]
  | .ite t a b, y => (y, datS (.ite t a b)) :: (wlL a (y ++ [0]) 0 ++ wlL b (y ++ [1]) 0)
  | .whl t k a, y => (y, datS (.whl t k a)) :: wlL a (y ++ [0]) 0
def wlL : List Sx → List Int → Nat → List Wr
  | [], _, _ => []
  | s :: r, y, n => wlS s (y ++ [(n : Int)]) ++ wlL r y (n + 1)
end
def inns : Sx → List (List Sx)
  | .sim _ _ => []
  | .ite _ a b => [a, b]
  | .whl _ _ a => [a]
def wlI : List (List Sx) → List Int → Nat → List Wr
  | [], _, _ => []
  | l :: r, y, n => wlL l (y ++ [(n : Int)]) 0 ++ wlI r y (n + 1)
theorem wlS_eq (s : Sx) (y : List Int) : wlS s y = (y, datS s) :: wlI (inns s) y 0 := by
  cases s with
  | sim w ds => rw [wlS]; rfl
  | ite t a b =>
    rw [wlS]
    show _ = _ :: (wlL a (y ++ [0]) 0 ++ (wlL b (y ++ [1]) 0 ++ []))
    rw [List.append_nil]
  | whl t k a =>
    rw [wlS]
    show _ = _ :: (wlL a (y ++ [0]) 0 ++ [])
    rw [List.append_nil]
mutual
def nS : Sx → Nat
  | .sim _ _ => 1
  | .ite _ a b => 1 + nL a + nL b
  | .whl _ _ a => 1 + nL a
def nL : List Sx → Nat
  | [] => 0
  | s :: r => nS s + nL r
end
mutual
theorem wlS_len : ∀ (s : Sx) (y : List Int), (wlS s y).length = nS s
  | .sim w ds, y => by rw [wlS, nS]; rfl
  | .ite t a b, y => by
    rw [wlS, nS, List.length_cons, List.length_append, wlL_len a, wlL_len b]
    omega
  | .whl t k a, y => by
    rw [wlS, nS, List.length_cons, wlL_len a]
    omega
theorem wlL_len : ∀ (ss : List Sx) (y : List Int) (n : Nat), (wlL ss y n).length = nL ss
  | [], y, n => by rw [wlL, nL]; rfl
  | s :: r, y, n => by rw [wlL, nL, List.length_append, wlS_len s, wlL_len r]
end
theorem nL_append : ∀ a b : List Sx, nL (a ++ b) = nL a + nL b
  | [], b => by rw [List.nil_append, nL, Nat.zero_add]
  | s :: a, b => by rw [List.cons_append, nL, nL, nL_append a b, Nat.add_assoc]
theorem wlL_snoc : ∀ (a : List Sx) (s : Sx) (y : List Int) (n : Nat), wlL (a ++ [s]) y n = wlL a y n ++ wlS s (y ++ [((n + a.length : Nat) : Int)])
  | [], s, y, n => by
    rw [List.nil_append, wlL, wlL, wlL, List.append_nil, List.nil_append]
    rfl
  | x :: a, s, y, n => by
    rw [List.cons_append, wlL, wlL_snoc a s y (n + 1), wlL, List.length_cons, List.append_assoc]
    congr 4
    congr 2
    omega
theorem wlL_step {ss : List Sx} {j : Nat} {s : Sx} (h : ss[j]? = some s) (y : List Int) : wlL (ss.take (j + 1)) y 0 = wlL (ss.take j) y 0 ++ wlS s (y ++ [(j : Int)]) := by
  have lt := (List.getElem?_eq_some_iff.mp h).1
  rw [List.take_succ, h]
  show wlL (ss.take j ++ [s]) y 0 = _
  rw [wlL_snoc, List.length_take, Nat.min_eq_left (Nat.le_of_lt lt), Nat.zero_add]
theorem wlI_snoc : ∀ (a : List (List Sx)) (l : List Sx) (y : List Int) (n : Nat), wlI (a ++ [l]) y n = wlI a y n ++ wlL l (y ++ [((n + a.length : Nat) : Int)]) 0
  | [], l, y, n => by
    rw [List.nil_append, wlI, wlI, wlI, List.append_nil, List.nil_append]
    rfl
  | x :: a, l, y, n => by
    rw [List.cons_append, wlI, wlI_snoc a l y (n + 1), wlI, List.length_cons, List.append_assoc]
    congr 4
    congr 2
    omega
theorem wlI_step {ls : List (List Sx)} {j : Nat} {l : List Sx} (h : ls[j]? = some l) (y : List Int) : wlI (ls.take (j + 1)) y 0 = wlI (ls.take j) y 0 ++ wlL l (y ++ [(j : Int)]) 0 := by
  have lt := (List.getElem?_eq_some_iff.mp h).1
  rw [List.take_succ, h]
  show wlI (ls.take j ++ [l]) y 0 = _
  rw [wlI_snoc, List.length_take, Nat.min_eq_left (Nat.le_of_lt lt), Nat.zero_add]
theorem nL_take (ss : List Sx) (j : Nat) : nL (ss.take j) ≤ nL ss := by
  have h := nL_append (ss.take j) (ss.drop j)
  rw [List.take_append_drop] at h
  omega
theorem nS_mem {s : Sx} : ∀ {ss : List Sx}, s ∈ ss → nS s ≤ nL ss
  | x :: r, m => by
    rw [nL]
    rcases List.mem_cons.mp m with rfl | m
    · omega
    · have := nS_mem m
      omega
theorem nS_inn {s : Sx} {l : List Sx} (h : l ∈ inns s) : nL l + 1 ≤ nS s := by
  cases s with
  | sim w ds => exact absurd h List.not_mem_nil
  | ite t a b =>
    rw [nS]
    rcases List.mem_cons.mp h with rfl | h
    · omega
    · rw [List.mem_singleton.mp h]
      omega
  | whl t k a =>
    rw [nS, List.mem_singleton.mp h]
    omega
theorem inns_ok {n : Nat} {s : Sx} {l : List Sx} (hs : OkS (n + 1) s) (h : l ∈ inns s) : l.length ≤ 2 ∧ ∀ x ∈ l, OkS n x := by
  rcases hs with ⟨w, ds, rfl, _⟩ | ⟨t, a, b, rfl, h1, h2, h3, h4, h5⟩ | ⟨t, k, a, rfl, h1, h2, h3, h4⟩
  · exact absurd h List.not_mem_nil
  · rcases List.mem_cons.mp h with rfl | h
    · exact ⟨h2, h4⟩
    · rw [List.mem_singleton.mp h]
      exact ⟨h3, h5⟩
  · rw [List.mem_singleton.mp h]
    exact ⟨h3, h4⟩
theorem inns_no {s : Sx} (hs : OkS 0 s) : inns s = [] := by
  obtain ⟨w, ds, rfl, _⟩ := hs
  rfl
def wayD (y : List Int) : PyData := .tuple (y.map .int)
def rowW (r : Wr) : PyData := .tuple [wayD r.1, r.2]
/-! ### they stand in order -/
theorem lt_app (y : List Int) {a b : List Int} (h : a < b) : y ++ a < y ++ b := by
  induction y with
  | nil => exact h
  | cons x y ih => exact List.cons_lt_cons_self.mpr ih
theorem lt_ext (y : List Int) (c : Int) (t : List Int) : y < y ++ c :: t := by
  have h := lt_app y (a := []) (b := c :: t) (List.nil_lt_cons c t)
  rwa [List.append_nil] at h
theorem lt_hd (y : List Int) {a b : Int} (h : a < b) (s t : List Int) : y ++ a :: s < y ++ b :: t := lt_app y (List.cons_lt_cons_iff.mpr (.inl h))
mutual
theorem wlS_pre : ∀ (s : Sx) (y : List Int), ∀ r ∈ wlS s y, ∃ t, r.1 = y ++ t
  | .sim w ds, y, r, m => by
    rw [wlS] at m
    rw [List.mem_singleton.mp m]
    exact ⟨[], by rw [List.append_nil]⟩
  | .ite t a b, y, r, m => by
    rw [wlS] at m
    rcases List.mem_cons.mp m with rfl | m
    · exact ⟨[], by rw [List.append_nil]⟩
    rcases List.mem_append.mp m with m | m
    · obtain ⟨k, t, _, e⟩ := wlL_pre a _ _ r m
      exact ⟨0 :: k :: t, by rw [e, List.append_assoc]; rfl⟩
    · obtain ⟨k, t, _, e⟩ := wlL_pre b _ _ r m
      exact ⟨1 :: k :: t, by rw [e, List.append_assoc]; rfl⟩
  | .whl t k a, y, r, m => by
    rw [wlS] at m
    rcases List.mem_cons.mp m with rfl | m
    · exact ⟨[], by rw [List.append_nil]⟩
    · obtain ⟨k, t, _, e⟩ := wlL_pre a _ _ r m
      exact ⟨0 :: k :: t, by rw [e, List.append_assoc]; rfl⟩
theorem wlL_pre : ∀ (ss : List Sx) (y : List Int) (n : Nat), ∀ r ∈ wlL ss y n, ∃ (k : Int) (t : List Int), (n : Int) ≤ k ∧ r.1 = y ++ k :: t
  | [], y, n, r, m => by
    rw [wlL] at m
    exact absurd m List.not_mem_nil
  | s :: ss, y, n, r, m => by
    rw [wlL] at m
    rcases List.mem_append.mp m with m | m
    · obtain ⟨t, e⟩ := wlS_pre s _ r m
      exact ⟨n, t, Int.le_refl _, by rw [e, List.append_assoc]; rfl⟩
    · obtain ⟨k, t, h, e⟩ := wlL_pre ss _ _ r m
      exact ⟨k, t, by omega, e⟩
end
mutual
theorem wlS_asc : ∀ (s : Sx) (y : List Int), (wlS s y).Pairwise fun a b => a.1 < b.1
  | .sim w ds, y => by
    rw [wlS]
    exact List.pairwise_singleton _ _
  | .ite t a b, y => by
    rw [wlS]
    refine List.pairwise_cons.mpr ⟨fun r m => ?_, List.pairwise_append.mpr ⟨wlL_asc a _ _, wlL_asc b _ _, fun r m q m2 => ?_⟩⟩
    · rcases List.mem_append.mp m with m | m
      · obtain ⟨k, t, _, e⟩ := wlL_pre a _ _ r m
        show y < r.1
        rw [e, List.append_assoc]
        exact lt_ext y _ _
      · obtain ⟨k, t, _, e⟩ := wlL_pre b _ _ r m
        show y < r.1
        rw [e, List.append_assoc]
        exact lt_ext y _ _
    · obtain ⟨k, t, _, e⟩ := wlL_pre a _ _ r m
      obtain ⟨k2, t2, _, e2⟩ := wlL_pre b _ _ q m2
      rw [e, e2, List.append_assoc, List.append_assoc]
      exact lt_hd y (by decide) _ _
  | .whl t k a, y => by
    rw [wlS]
    refine List.pairwise_cons.mpr ⟨fun r m => ?_, wlL_asc a _ _⟩
    obtain ⟨k, t, _, e⟩ := wlL_pre a _ _ r m
    show y < r.1
    rw [e, List.append_assoc]
    exact lt_ext y _ _
theorem wlL_asc : ∀ (ss : List Sx) (y : List Int) (n : Nat), (wlL ss y n).Pairwise fun a b => a.1 < b.1
  | [], y, n => by
    rw [wlL]
    exact .nil
  | s :: ss, y, n => by
    rw [wlL]
    refine List.pairwise_append.mpr ⟨wlS_asc s _, wlL_asc ss _ _, fun r m q m2 => ?_⟩
    obtain ⟨t, e⟩ := wlS_pre s _ r m
    obtain ⟨k2, t2, h, e2⟩ := wlL_pre ss _ _ q m2
    rw [e, e2, List.append_assoc]
    exact lt_hd y (by omega) _ _
end
/-- sorted, they stay as they are -/
theorem ways_sorted {ws : List (List Int)} (h : ws.Pairwise (· < ·)) : ws.mergeSort (PySem.W.dataLe false wayD) = ws := by
  refine List.mergeSort_of_pairwise (h.imp fun {a b} hab => ?_)
  show (!PySem.W.dataLt (wayD b) (wayD a)) = true
  rw [wayD, wayD, PySem.W.dataLt_tuple]
  have e := PySem.W.dataLt_ints b a
  unfold PySem.W.rowLt at e
  rw [e, decide_eq_false (fun h2 => List.lt_irrefl _ (List.lt_trans hab h2))]
  rfl
/-! ### sizes -/
def nB : Nat → Nat
  | 0 => 1
  | n + 1 => 1 + 4 * nB n
theorem nL_le {n m : Nat} (h : ∀ s, OkS n s → nS s ≤ nB n) : ∀ {ss : List Sx}, (∀ s ∈ ss, OkS n s) → ss.length ≤ m → nL ss ≤ m * nB n
  | [], _, _ => by
    rw [nL]
    exact Nat.zero_le _
  | s :: ss, hs, hm => by
    obtain ⟨q, rfl⟩ : ∃ q, m = q + 1 := ⟨m - 1, by rw [List.length_cons] at hm; omega⟩
    have a := h s (hs s List.mem_cons_self)
    have b := nL_le (m := q) h (ss := ss) (fun x mx => hs x (List.mem_cons_of_mem _ mx)) (by rw [List.length_cons] at hm; omega)
    rw [nL, Nat.add_mul, Nat.one_mul]
    omega
theorem nS_le : ∀ (n : Nat) (s : Sx), OkS n s → nS s ≤ nB n
  | 0, s, h => by
    obtain ⟨w, ds, rfl, h⟩ := h
    rw [nS]
    exact Nat.le_refl _
  | n + 1, s, h => by
    rcases h with ⟨w, ds, rfl, h⟩ | ⟨t, a, b, rfl, h1, h2, h3, h4, h5⟩ | ⟨t, k, a, rfl, h1, h2, h3, h4⟩
    · rw [nS, nB]
      omega
    · have x := nL_le (nS_le n) h4 h2
      have y := nL_le (nS_le n) h5 h3
      rw [nS, nB]
      omega
    · have x := nL_le (nS_le n) h4 h3
      rw [nS, nB]
      omega
/-- the numbers of a way are places -/
def NatW (y : List Int) : Prop := ∀ c ∈ y, 0 ≤ c ∧ c ≤ 100000
theorem NatW.add {y : List Int} (h : NatW y) {c : Int} (h0 : 0 ≤ c) (h1 : c ≤ 100000) : NatW (y ++ [c]) := fun d m => by
  rcases List.mem_append.mp m with m | m
  · exact h d m
  · rw [List.mem_singleton.mp m]
    exact ⟨h0, h1⟩
def WrOk (n m : Nat) (r : Wr) : Prop := (∃ s, OkS n s ∧ r.2 = datS s) ∧ NatW r.1 ∧ r.1.length ≤ m ∧ r.1 ≠ []
theorem wl_ok : ∀ (n : Nat), (∀ (s : Sx) (y : List Int) (m : Nat), OkS n s → NatW y → y ≠ [] → y.length + 2 * n ≤ m → ∀ r ∈ wlS s y, WrOk n m r) ∧
    ∀ (ss : List Sx) (y : List Int) (q : Nat) (m : Nat), (∀ s ∈ ss, OkS n s) → NatW y → y.length + 2 * n + 1 ≤ m → q + ss.length ≤ 100000 → ∀ r ∈ wlL ss y q, WrOk n m r := by
  have many : ∀ n, (∀ (s : Sx) (y : List Int) (m : Nat), OkS n s → NatW y → y ≠ [] → y.length + 2 * n ≤ m → ∀ r ∈ wlS s y, WrOk n m r) →
      ∀ (ss : List Sx) (y : List Int) (q : Nat) (m : Nat), (∀ s ∈ ss, OkS n s) → NatW y → y.length + 2 * n + 1 ≤ m → q + ss.length ≤ 100000 → ∀ r ∈ wlL ss y q, WrOk n m r := fun n h ss => by
    induction ss with
    | nil =>
      intro y q m _ _ _ _ r mr
      rw [wlL] at mr
      exact absurd mr List.not_mem_nil
    | cons s ss ih =>
      intro y q m hs hy hm hq r mr
      rw [List.length_cons] at hq
      rw [wlL] at mr
      rcases List.mem_append.mp mr with mr | mr
      · exact h s _ m (hs s List.mem_cons_self) (hy.add (by omega) (by omega)) (by simp) (by rw [List.length_append, List.length_singleton]; omega) r mr
      · exact ih y (q + 1) m (fun x mx => hs x (List.mem_cons_of_mem _ mx)) hy hm (by omega) r mr
  intro n
  induction n with
  | zero =>
    refine ⟨?a, many 0 ?a⟩
    intro s y m hs hy hne hm r mr
    obtain ⟨w, ds, rfl, h⟩ := hs
    rw [wlS] at mr
    rw [List.mem_singleton.mp mr]
    exact ⟨⟨_, ⟨w, ds, rfl, h⟩, rfl⟩, hy, by show y.length ≤ m; omega, hne⟩
  | succ n ih =>
    refine ⟨?b, many (n + 1) ?b⟩
    intro s y m hs hy hne hm r mr
    rw [wlS_eq] at mr
    rcases List.mem_cons.mp mr with rfl | mr
    · exact ⟨⟨s, hs, rfl⟩, hy, by show y.length ≤ m; omega, hne⟩
    · have go : ∀ (ls : List (List Sx)) (q : Nat), (∀ l ∈ ls, l ∈ inns s) → q + ls.length ≤ 100 → r ∈ wlI ls y q → WrOk (n + 1) m r := fun ls => by
        induction ls with
        | nil =>
          intro q _ _ m
          exact absurd m List.not_mem_nil
        | cons l ls ih2 =>
          intro q hl hq mr
          rw [List.length_cons] at hq
          rcases List.mem_append.mp mr with mr | mr
          · obtain ⟨h1, h2⟩ := inns_ok hs (hl l List.mem_cons_self)
            obtain ⟨⟨x, hx, e⟩, r2, r3, r4⟩ := ih.2 l _ 0 m h2 (hy.add (c := (q : Int)) (by omega) (by omega)) (by rw [List.length_append, List.length_singleton]; omega) (by omega) r mr
            exact ⟨⟨x, hx.up, e⟩, r2, r3, r4⟩
          · exact ih2 (q + 1) (fun x mx => hl x (List.mem_cons_of_mem _ mx)) (by omega) mr
      have l2 : (inns s).length ≤ 2 := by
        cases s with
        | sim w ds => exact Nat.zero_le _
        | ite t a b => exact Nat.le_refl 2
        | whl t k a => exact Nat.le_succ 1
      exact go (inns s) 0 (fun l m => m) (by omega) mr
end L2.Hx

/-! The program walks statements. -/
namespace L2.Hx
open PySem PySem.Spec PyProof.Rows
def WkOk (n : Nat) (ss : List Sx) (y : List Int) : Prop := (∀ s ∈ ss, OkS n s) ∧ nL ss ≤ 100000 ∧ y.length + 2 * n ≤ 100 ∧ ss.length ≤ 40
def SxOk (s : Sx) : Prop := ∃ n, OkS n s
theorem sx_word {n : Nat} {w : Str} {ds : List PyData} (h : OkS n (.sim w ds)) : SimOk w ds := by
  cases n with
  | zero =>
    obtain ⟨_, _, e, h⟩ := h
    cases e
    exact h
  | succ q =>
    rcases h with ⟨_, _, e, h⟩ | ⟨_, _, _, e, _⟩ | ⟨_, _, _, e, _⟩
    · cases e
      exact h
    · cases e
    · cases e
def spInner (K : PySem.W.Frag) : Sp := spF K fun ds d => ∃ n s, ds = [datS s] ∧ OkS n s ∧ d = .tuple ((inns s).map fun l => .tuple (datL l))
def spWalked (K : PySem.W.Frag) (n : Nat) : Sp := spF K fun ds d => ∃ ss y, ds = [.tuple (datL ss), wayD y] ∧ WkOk n ss y ∧ d = .list ((wlL ss y 0).map rowW)
def spWalkedP (K : PySem.W.Frag) : Nat → Sp
  | 0 => spNo
  | n + 1 => spWalked K n
section
variable {P : Program} {w : World} {K : PySem.W.Frag} {mg : Str → Option Value} {base : Heap} {p l : Addr} {σ : St} {G : Hp} {φ ψ : PyData → Prop} {t ta tb te : TE} {tt : TT} {tr : TA} {m : Nat}
theorem tt_head {i : Nat} {v : V} {z c : Str} {r : List PyData} {H : Hp} {Q : Bool → Hp → Prop} (hi : σ[i]? = some (some v)) (hv : Da K G v (.tuple (.str z :: r))) (s : Same G H) (hq : Q (decide (z = c)) H) : tTest (tOp rEq (tOp (rIxT K) (tVar i) (tC (.int 0))) (tC (.str c))) σ H Q := by
  obtain ⟨a, xs, rfl, sq, da⟩ := hv.tupI
  cases da with
  | cons h t =>
    cases h
    refine ⟨_, hi, a, _, 0, V.str z, rfl, rfl, sameT s sq, ?_, rfl, _, rfl, ?_⟩
    · unfold atI ixN
      rw [if_pos (by omega), if_pos (by simp only [List.length_cons]; omega)]
      rfl
    rw [show decide (V.str z = V.str c) = decide (z = c) from decide_eq_decide.mpr ⟨fun h => by injection h, fun h => by rw [h]⟩]
    exact hq
theorem asg_own {i : Nat} {as bs : List PyData} {D : Ends} {H : Hp} (ha : TX K p l σ G ta (.list as)) (hb : TX K p l σ G tb (.list bs)) (hz : as.length + bs.length ≤ sizeLine) (W : Wd p l G H)
    (k : ∀ c vs G2 H2, Ext p l G H G2 H2 → H c = none → c ≠ p → c ≠ l → G2 c = none → H2 c = some (.lst vs) → DaAll K G2 vs (as ++ bs) → D.nx (σ.set i (some (.ref c))) H2) : tAsg (tOp rCat ta tb) (gName i) D σ H :=
  ha G H _ W (Same.refl _) fun v d G2 H2 e da f => hb G2 H2 _ e.w e.sub fun u d2 G3 H3 e3 da3 f3 => by
    subst f f3
    have E := e.trans W e3
    cases da with
    | @lst a xs _ t1 a1 =>
      cases da3 with
      | @lst b ys _ t2 a2 =>
        refine ⟨a, b, xs, ys, rfl, rfl, (e3.sub.trans e3.w.same) _ _ t1, e3.w.same _ _ t2, by rw [a1.length, a2.length]; omega, fun c hc => ?_⟩
        exact k c _ G3 _ (E.trans W (e3.w.tmp hc)) (E.old hc) (e3.w.np hc) (e3.w.nl hc) (e3.w.same.free hc) upd_same ((a1.mono e3.sub).append a2)
theorem D_no {x : Str} {st : Stmt} {ps : List Str} (h : ∃ f fd, Src K mg x st ps f fd) : Df P w K mg base 0 x ps spNo := by
  obtain ⟨f, fd, S⟩ := h
  exact ⟨f, fd, ⟨fun vs H Q E h => absurd h id, fun _ _ _ _ _ _ _ _ _ _ _ _ _ _ h => absurd h id⟩, S.at_, S.fn.kp, S.bd⟩
theorem wayD_add (y : List Int) (c : Int) : PyData.tuple (y.map .int ++ [.int c]) = wayD (y ++ [c]) := by
  rw [wayD, List.map_append]
  rfl
theorem cut_drop {xs : List V} (n : Nat) : cutV xs (some (n : Int)) none = xs.drop n := by
  unfold cutV
  rw [HT.sIx_none, HT.sIx_nat]
  rcases Nat.le_total n xs.length with h | h
  · rw [Nat.min_eq_left h, List.take_of_length_le (by rw [List.length_drop]; exact Nat.le_refl _)]
  · rw [Nat.min_eq_right h, List.drop_length, List.drop_of_length_le h]
    exact List.take_nil
theorem tx_drop {as : List PyData} (n : Nat) (ha : TX K p l σ G ta (.tuple as)) : TX K p l σ G (tSl (rSlA K) ta (tPart (tC (.int (n : Int)))) tNoPart) (.tuple (as.drop n)) := fun G1 H Q W s k =>
  ha G1 H _ W s fun v d G2 H2 e da f => by
    subst f
    obtain ⟨a, xs, rfl, t1, a1⟩ := da.tupI
    refine ⟨_, rfl, a, xs, rfl, sameT e.w.same t1, fun hw => ?_, fun _ c hc => ?_⟩
    · have hw := hw.1
      rw [HT.sIx_nat] at hw
      refine k _ _ _ _ e da ?_
      have hl := a1.length
      by_cases z : n = 0
      · rw [z, List.drop_zero]
      · have : xs.length = 0 := by omega
        rw [List.length_eq_zero_iff.mp (show as.length = 0 by omega), List.drop_nil]
    · rw [cut_drop]
      have e4 := e.w.put (o := .tup (xs.drop n)) hc
      exact k _ _ _ _ (e.trans W e4) (.tup (SqT.of upd_same) ((a1.drop n).mono e4.sub)) rfl
theorem D_inner (T : Txt K mg) : Df P w K mg base 1 "inner_of" ["statement"] (spInner K) := by
  obtain ⟨f, fd, S⟩ := T.d_inner_of
  refine Df.mk' (k := 0) S sc_inner_of (fun vs H Q E h => ?_) (fun cdv A outer s H vs Q E hgd hr h => ?_)
  · obtain ⟨p, l, G, ds, d, _, da, ⟨n, s, rfl, _⟩, _⟩ := h
    rw [da.length]
    rfl
  · obtain ⟨p, l, G, ds, d, W, da, ⟨n, s, rfl, hs, rfl⟩, kk⟩ := h
    obtain ⟨v, rfl, d1⟩ := da.one
    refine ⟨_, (pss_cons (ps_if (pt_cmpR op_eq (pe_ix ix_tup (pv 0) pe_int (fun _ _ => rfl)) pe_str (nomark _)) (pss_one (ps_ret (pe_slice sl_tupA (pv 0) (po_some pe_int) po_none))) pss_nil)
      (pss_one (ps_ret (pe_ifExp (pt_cmpR op_eq (pe_ix ix_tup (pv 0) pe_int (fun _ _ => rfl)) pe_str (nomark _)) (pe_slice sl_tupA (pv 0) (po_some pe_int) po_none) (pe_tup pa_nil))))), ?_⟩
    cases s with
    | sim w ds =>
      have hw := sx_word hs
      rw [datS] at d1
      refine tt_head rfl d1 W.same ?_
      rw [decide_eq_false hw.nif]
      refine if_no rfl ?_
      dsimp only [tNext]
      refine TD.ret (K := K) (p := p) (l := l) (G := G) (φ := fun x => x = .tuple []) (tx_ifS (z := w) (tx_ix (td_is rfl d1) rfl) (fun e => absurd e hw.nwh) fun _ => tx_tup tx_nil) W (fun v e G' H' x da f => kk v G' H' x (by subst f; exact da))
    | ite t a b =>
      rw [datS] at d1
      refine tt_head rfl d1 W.same ?_
      rw [decide_eq_true rfl]
      refine if_yes rfl ?_
      exact TD.ret (K := K) (p := p) (l := l) (G := G) (φ := fun x => x = .tuple [.tuple (datL a), .tuple (datL b)]) (tx_drop 2 (td_is rfl d1)) W (fun v e G' H' x da f => kk v G' H' x (by subst f; exact da))
    | whl t k a =>
      rw [datS] at d1
      refine tt_head rfl d1 W.same ?_
      rw [decide_eq_false (show ¬ ("while" : Str) = "if" by decide)]
      refine if_no rfl ?_
      dsimp only [tNext]
      exact TD.ret (K := K) (p := p) (l := l) (G := G) (φ := fun x => x = .tuple [.tuple (datL a)]) (tx_ifS (z := "while") (tx_ix (td_is rfl d1) rfl) (fun _ => tx_drop 3 (td_is rfl d1)) fun e => absurd rfl e) W (fun v e G' H' x da f => kk v G' H' x (by subst f; exact da))
theorem D_walked1 (T : Txt K mg) {k n : Nat} (D_walked : Df P w K mg base k "walked" ["statements", "above"] (spWalkedP K n)) (hk : 1 ≤ k ∨ n = 0) : Df P w K mg base (k + 1 + 1) "walked" ["statements", "above"] (spWalked K n) := by
  have D_inner_of := (D_inner (P := P) (w := w) (base := base) T).mono (show 1 ≤ k + 1 by omega)
  have D_walked := D_walked.mono (show k ≤ k + 1 by omega)
  obtain ⟨f, fd, S⟩ := T.d_walked
  refine Df.mk' (k := k + 1) S sc_walked (fun vs H Q E h => ?_) (fun cdv A outer s H vs Q E hgd hr h => ?_)
  · obtain ⟨p, l, G, ds, d, _, da, ⟨ss, y, rfl, _⟩, _⟩ := h
    rw [da.length]
    rfl
  · obtain ⟨p, l, G, ds, d, W, da, ⟨ss, y, rfl, ⟨hs, hc, hy, hl⟩, rfl⟩, kk⟩ := h
    obtain ⟨v, u, rfl, d1, d2⟩ := da.two
    have big : (300000 : Nat) ≤ sizeLine := by decide
    rw [datL_map] at d1
    obtain ⟨A1, xs, rfl, sq, dax⟩ := d1.tupI
    have lx : xs.length = ss.length := by rw [dax.length, List.length_map]
    refine ⟨_, (pss_cons (ps_set (i := 2) sc_walked.nd rfl (.inl rfl) (pe_lst pa_nil))
      (pss_cons (ps_for PassesOwn.never rfl (pi_enumT rfl T.b_enumerate (pa_cons (pv 0) pa_nil)) (pg_tup rfl (pgs_cons (pg_name (i := 3) sc_walked.nd rfl (.inl rfl)) (pgs_cons (pg_name (i := 4) sc_walked.nd rfl (.inl rfl)) pgs_nil)))
      (pss_cons (ps_set (i := 5) sc_walked.nd rfl (.inl rfl) (pe_op op_catA (pv 1) (pe_tup (pa_cons (pv 3) pa_nil))))
      (pss_cons (ps_expr (pe_bm PySem.F.plainAttrs_list PySem.F.slot_list_append PySem.F.type_list_append mt_append (pv 2) (pa_cons (pe_tup (pa_cons (pv 5) (pa_cons (pv 4) pa_nil))) pa_nil)))
      (pss_one (ps_for PassesOwn.never rfl (pi_enumT rfl T.b_enumerate (pa_cons (pe_d D_inner_of hgd hr (pa_cons (pv 4) pa_nil)) pa_nil)) (pg_tup rfl (pgs_cons (pg_name (i := 6) sc_walked.nd rfl (.inl rfl)) (pgs_cons (pg_name (i := 7) sc_walked.nd rfl (.inl rfl)) pgs_nil)))
      (pss_one (ps_expr (pe_bm PySem.F.plainAttrs_list PySem.F.slot_list_extend PySem.F.type_list_extend mt_extend (pv 2) (pa_cons (pe_d D_walked hgd hr (pa_cons (pv 7) (pa_cons (pe_op op_catA (pv 5) (pe_tup (pa_cons (pv 6) pa_nil))) pa_nil))) pa_nil)))))))))
      (pss_one (ps_ret (pv 2))))), ?_⟩
    refine ⟨by decide, fun L hL => ?_⟩
    have e0 := W.tmp (o := .lst []) hL
    have gL := W.same.free hL
    have nLp := W.np hL
    have nLl := W.nl hL
    have hL0 : (upd H L (.lst [])) L = some (.lst []) := upd_same
    dsimp only [gName, List.set]
    generalize upd H L (.lst []) = H0 at e0 hL0 ⊢
    refine ⟨_, rfl, A1, xs, rfl, sameT e0.w.same sq, ?_⟩
    refine for_enumT (fun j σ' H' => ∃ (o3 o4 o5 o6 o7 : Option V) (G' : Hp) (vs : List V), σ' = [some (.ref A1), some u, some (.ref L), o3, o4, o5, o6, o7] ∧ Ext p l G H G' H' ∧ G' L = none ∧ H' L = some (.lst vs) ∧ DaAll K G' vs ((wlL (ss.take j) y 0).map rowW)) ⟨_, _, _, _, _, G, [], rfl, e0, gL, hL0, ?_⟩ (fun j σ' H' _ ⟨_, _, _, _, _, G', _, _, e, _⟩ => sameT (e.sub.trans e.w.same) sq) ?_ ?_
    · rw [List.take_zero, wlL]
      exact .nil
    · rintro j x T σ' H1 hx ⟨o3, o4, o5, o6, o7, G1, vs, rfl, e1, g1, r1, dv1⟩ hT
      obtain ⟨d, hd, dd⟩ := dax.get hx
      rw [List.getElem?_map] at hd
      obtain ⟨z, hz, rfl⟩ := Option.map_eq_some_iff.mp hd
      have dd := dd.mono e1.sub
      have et := e1.w.tmp (o := .tup [.int ((j : Nat) : Int), x]) hT
      refine ⟨T, _, rfl, SqT.of upd_same, rfl, _, _, rfl, _, _, rfl, rfl, ?_⟩
      dsimp only [gName, List.set]
      have nTL : L ≠ T := fun e => by rw [e, hT] at r1; cases r1
      have r2 : (upd H1 T (.tup [.int ((j : Nat) : Int), x])) L = some (.lst vs) := by rw [upd_ne nTL]; exact r1
      generalize upd H1 T (.tup [.int ((j : Nat) : Int), x]) = H2 at et r2 ⊢
      have E2 := e1.trans W et
      refine TD.asg (K := K) (p := p) (l := l) (G := G1) (φ := fun x => x = wayD (y ++ [((j : Nat) : Int)])) (by rw [← wayD_add]; exact tx_catA (td_is rfl (d2.mono e1.sub)) (tx_tup (tx_cons (td_is rfl (.int _)) tx_nil) (by show 1 ≤ sizeLine; decide)) (by rw [List.length_map]; show y.length + 1 ≤ _; omega)) et.w fun wv dw G3 H3 e3 dwv hdw => ?_
      subst hdw
      have E3 := E2.trans W e3
      have r3 := e3.keep _ _ nLp nLl r2
      have g3 := e3.new _ _ r2 g1
      have dd3 := dd.mono e3.sub
      have lv : vs.length = nL (ss.take j) := by rw [dv1.length, List.length_map, wlL_len]
      have mz : z ∈ ss := List.mem_of_getElem? hz
      have oz := hs z mz
      have lc := nL_take ss j
      have lc2 := nS_mem mz
      have nz : 1 ≤ nS z := by
        have e := wlS_len z []
        rw [wlS_eq, List.length_cons] at e
        omega
      dsimp only [gName, List.set]
      -- the statement itself
      refine ⟨_, rfl, .inl ⟨rfl, _, SqL.of r3⟩, ?_⟩
      refine (show TX K p l _ G3 _ (rowW (y ++ [((j : Nat) : Int)], datS z)) from tx_tup (tx_cons (td_is rfl dwv) (tx_cons (td_is rfl dd3) tx_nil)) (by show 2 ≤ sizeLine; decide)) G3 H3 _ e3.w (Same.refl _) fun vv dvv G4 H4 e4 davv hdvv => ?_
      subst hdvv
      refine ⟨L, vs, vv, rfl, rfl, e4.keep _ _ nLp nLl r3, by omega, ?_⟩
      have E4 := E3.trans W e4
      have g4 := e4.new _ _ r3 g3
      have own : ∀ {G4 H4 : Hp} (zs : List V), Ext p l G H G4 H4 → G4 L = none → Ext p l G H G4 (upd H4 L (.lst zs)) := fun zs E4 g4 => ⟨E4.w.own nLp nLl g4, E4.sub, fun b o n1 n2 q => by rw [upd_ne (ne_of_none q hL)]; exact E4.keep b o n1 n2 q, E4.new⟩
      have E5 := own (vs ++ [vv]) E4 g4
      have r5 : (upd H4 L (.lst (vs ++ [vv]))) L = some (.lst (vs ++ [vv])) := upd_same
      have dz5 : DaAll K G4 (vs ++ [vv]) ((wlL (ss.take j) y 0).map rowW ++ [rowW (y ++ [((j : Nat) : Int)], datS z)]) := (dv1.mono (e3.sub.trans e4.sub)).append (.cons davv .nil)
      have dd5 := dd3.mono e4.sub
      have dw5 := dwv.mono e4.sub
      generalize upd H4 L (.lst (vs ++ [vv])) = H5 at E5 r5 ⊢
      generalize vs ++ [vv] = vs5 at r5 dz5
      refine (show TX K p l _ G4 _ (.tuple ((inns z).map fun l => .tuple (datL l))) from tx_call (tx_cons (td_is rfl dd5) tx_nil) ⟨n, z, rfl, oz, rfl⟩) G4 H5 _ E5.w (Same.refl _) fun iv di G6 H6 e6 div hdi => ?_
      subst hdi
      obtain ⟨I1, is, rfl, sqi, dis⟩ := div.tupI
      have E6 := E5.trans W e6
      have r6 := e6.keep _ _ nLp nLl r5
      have g6 := e6.new _ _ r5 g4
      have li : is.length = (inns z).length := by rw [dis.length, List.length_map]
      have step := wlL_step hz y
      rw [wlS_eq] at step
      refine ⟨I1, is, rfl, sameT e6.w.same sqi, ?_⟩
      refine for_enumT (fun q σ' H' => ∃ (o6 o7 : Option V) (G' : Hp) (vs : List V), σ' = [some (.ref A1), some u, some (.ref L), some (.int ((j : Nat) : Int)), some x, some wv, o6, o7] ∧ Ext p l G H G' H' ∧ Same G6 G' ∧ G' L = none ∧ H' L = some (.lst vs) ∧ DaAll K G' vs ((wlL (ss.take j) y 0).map rowW ++ [rowW (y ++ [((j : Nat) : Int)], datS z)] ++ (wlI ((inns z).take q) (y ++ [((j : Nat) : Int)]) 0).map rowW)) ⟨_, _, G6, vs5, rfl, E6, Same.refl _, g6, r6, ?_⟩ (fun q σ' H' _ ⟨_, _, G', _, _, e, s, _⟩ => sameT (s.trans e.w.same) sqi) ?_ ?_
      · rw [List.take_zero, wlI, List.map_nil, List.append_nil]
        exact dz5.mono e6.sub
      · rintro q xi T2 σ' H7 hxi ⟨o6, o7, G7, vs7, rfl, E7, s7, g7, r7, dv7⟩ hT2
        obtain ⟨d, hd, ddi⟩ := dis.get hxi
        rw [List.getElem?_map] at hd
        obtain ⟨zi, hzi, rfl⟩ := Option.map_eq_some_iff.mp hd
        have ddi := ddi.mono s7
        have et2 := E7.w.tmp (o := .tup [.int ((q : Nat) : Int), xi]) hT2
        refine ⟨T2, _, rfl, SqT.of upd_same, rfl, _, _, rfl, _, _, rfl, rfl, ?_⟩
        dsimp only [gName, List.set]
        have nTL2 : L ≠ T2 := fun e => by rw [e, hT2] at r7; cases r7
        have r8 : (upd H7 T2 (.tup [.int ((q : Nat) : Int), xi])) L = some (.lst vs7) := by rw [upd_ne nTL2]; exact r7
        generalize upd H7 T2 (.tup [.int ((q : Nat) : Int), xi]) = H8 at et2 r8 ⊢
        have E8 := E7.trans W et2
        have mi : zi ∈ inns z := List.mem_of_getElem? hzi
        cases n with
        | zero =>
          rw [inns_no oz] at mi
          exact absurd mi List.not_mem_nil
        | succ n =>
          obtain ⟨h1, h2⟩ := inns_ok oz mi
          have h3 := nS_inn mi
          refine ⟨_, rfl, .inl ⟨rfl, _, SqL.of r8⟩, ?_⟩
          refine (show TX K p l _ G7 _ (.list ((wlL zi (y ++ [((j : Nat) : Int)] ++ [((q : Nat) : Int)]) 0).map rowW)) from tx_call (ds := [.tuple (datL zi), wayD (y ++ [((j : Nat) : Int)] ++ [((q : Nat) : Int)])]) (tx_cons (td_is rfl ddi) (tx_cons (by rw [← wayD_add]; exact tx_catA (td_is rfl (dw5.mono (e6.sub.trans s7))) (tx_tup (tx_cons (td_is rfl (.int _)) tx_nil) (by show 1 ≤ sizeLine; decide)) (by rw [List.length_map, List.length_append]; show y.length + 1 + 1 ≤ _; omega)) tx_nil)) ⟨zi, _, rfl, ⟨h2, by omega, by rw [List.length_append, List.length_append]; show y.length + 1 + 1 + 2 * n ≤ 100; omega, by omega⟩, rfl⟩) G7 H8 _ E8.w (Same.refl _) fun vv dvv G9 H9 e9 davv hdvv => ?_
          subst hdvv
          cases davv with
          | @lst B zs _ t1 a1 =>
            have r9 := e9.keep _ _ nLp nLl r8
            have g9 := e9.new _ _ r8 g7
            have E9 := E8.trans W e9
            have lz := a1.length
            rw [List.length_map, wlL_len] at lz
            have lv7 := dv7.length
            have lw : (wlI ((inns z).take q) (y ++ [((j : Nat) : Int)]) 0).length ≤ nS z := by
              have e := wlS_len z (y ++ [((j : Nat) : Int)])
              have t : wlI ((inns z).take q) (y ++ [((j : Nat) : Int)]) 0 = (wlI ((inns z).take q) (y ++ [((j : Nat) : Int)]) 0) := rfl
              rw [wlS_eq, List.length_cons] at e
              have mono : ∀ (ls ms : List (List Sx)) (y : List Int) (n : Nat), (wlI ls y n).length ≤ (wlI (ls ++ ms) y n).length := fun ls => by
                induction ls with
                | nil => exact fun ms y n => Nat.zero_le _
                | cons a ls ih =>
                  intro ms y n
                  rw [List.cons_append, wlI, wlI, List.length_append, List.length_append]
                  have := ih ms y (n + 1)
                  omega
              have h := mono ((inns z).take q) ((inns z).drop q) (y ++ [((j : Nat) : Int)]) 0
              rw [List.take_append_drop] at h
              omega
            rw [List.length_append, List.length_append, List.length_map, List.length_map, wlL_len] at lv7
            have lv7 : vs7.length = nL (ss.take j) + 1 + _ := lv7
            refine ⟨L, B, vs7, zs, rfl, rfl, r9, e9.w.same _ _ t1, by omega, ?_⟩
            refine ⟨_, _, G9, vs7 ++ zs, rfl, own (vs7 ++ zs) E9 g9, s7.trans e9.sub, g9, upd_same, ?_⟩
            rw [wlI_step hzi, List.map_append, ← List.append_assoc]
            exact (dv7.mono e9.sub).append a1
      · rintro σ' H7 ⟨o6, o7, G7, vs7, rfl, E7, s7, g7, r7, dv7⟩
        refine ⟨_, _, _, _, _, G7, vs7, rfl, E7, g7, r7, ?_⟩
        rw [step, List.map_append, List.map_cons]
        rw [li, List.take_length] at dv7
        simpa only [List.append_assoc, List.cons_append, List.nil_append] using dv7
    · rintro σ' H1 ⟨o3, o4, o5, o6, o7, G1, vs, rfl, e1, g1, r1, dv1⟩
      obtain ⟨w4, s4⟩ := e1.w.hold nLp nLl g1 r1
      rw [lx, List.take_length] at dv1
      exact ⟨_, rfl, kk (.ref L) (upd G1 L (.lst vs)) H1 ⟨w4, e1.sub.trans s4, e1.keep, fun b o q g => by rw [upd_ne (ne_of_none q hL)]; exact e1.new b o q g⟩ (.lst upd_same (dv1.mono s4))⟩
theorem D_walkedN (T : Txt K mg) : ∀ n : Nat, Df P w K mg base (2 * n + 2) "walked" ["statements", "above"] (spWalked K n)
  | 0 => D_walked1 T (k := 0) (n := 0) (D_no T.d_walked) (.inr rfl)
  | n + 1 => D_walked1 T (D_walkedN T n) (.inl (by omega))
end
end L2.Hx

/-! The law walks statements. -/
namespace L2.Hx
open PySem PySem.Spec PyProof.Rows
def inT : List (List Sx) → Nat → List PyData
  | [], _ => []
  | l :: r, n => .tuple [.int (n : Int), .tuple (datL l)] :: inT r (n + 1)
theorem inT_len : ∀ (ls : List (List Sx)) (n : Nat), (inT ls n).length = ls.length
  | [], _ => rfl
  | l :: r, n => by rw [inT, List.length_cons, List.length_cons, inT_len r]
theorem inT_get : ∀ {ls : List (List Sx)} {n q : Nat} {d : PyData}, (inT ls n)[q]? = some d → ∃ l, ls[q]? = some l ∧ d = .tuple [.int ((n + q : Nat) : Int), .tuple (datL l)]
  | [], n, q, d, h => by
    rw [inT] at h
    cases h
  | l :: r, n, 0, d, h => by
    rw [inT, List.getElem?_cons_zero] at h
    cases h
    exact ⟨l, rfl, rfl⟩
  | l :: r, n, q + 1, d, h => by
    rw [inT, List.getElem?_cons_succ] at h
    obtain ⟨l2, h1, h2⟩ := inT_get h
    refine ⟨l2, by rw [List.getElem?_cons_succ]; exact h1, ?_⟩
    rw [h2, show n + 1 + q = n + (q + 1) by omega]
def spLInner (K : PySem.W.Frag) : Sp := spF K fun ds d => ∃ n s, ds = [datS s] ∧ OkS n s ∧ d = .list (inT (inns s) 0)
section
variable {P : Program} {w : World} {K : PySem.W.Frag} {mg : Str → Option Value} {base : Heap} {p l : Addr} {σ : St} {G : Hp} {φ ψ : PyData → Prop} {t ta tb te : TE} {tt : TT} {tr : TA} {m : Nat}
theorem D_linner (T : Txt K mg) : Df P w K mg base 1 "_law_inner" ["statement"] (spLInner K) := by
  obtain ⟨f, fd, S⟩ := T.d_l_inner
  refine Df.mk' (k := 0) S sc_l_inner (fun vs H Q E h => ?_) (fun cdv A outer s H vs Q E hgd hr h => ?_)
  · obtain ⟨p, l, G, ds, d, _, da, ⟨n, s, rfl, _⟩, _⟩ := h
    rw [da.length]
    rfl
  · obtain ⟨p, l, G, ds, d, W, da, ⟨n, s, rfl, hs, rfl⟩, kk⟩ := h
    obtain ⟨v, rfl, d1⟩ := da.one
    refine ⟨_, (pss_cons (ps_if (pt_cmpR op_eq (pe_ix ix_tup (pv 0) pe_int (fun _ _ => rfl)) pe_str (nomark _)) (pss_one (ps_ret (pe_lst (pa_cons (pe_tup (pa_cons pe_int (pa_cons (pe_ix ix_tup (pv 0) pe_int (fun _ _ => rfl)) pa_nil))) (pa_cons (pe_tup (pa_cons pe_int (pa_cons (pe_ix ix_tup (pv 0) pe_int (fun _ _ => rfl)) pa_nil))) pa_nil))))) pss_nil)
      (pss_one (ps_ret (pe_ifExp (pt_cmpR op_eq (pe_ix ix_tup (pv 0) pe_int (fun _ _ => rfl)) pe_str (nomark _)) (pe_lst (pa_cons (pe_tup (pa_cons pe_int (pa_cons (pe_ix ix_tup (pv 0) pe_int (fun _ _ => rfl)) pa_nil))) pa_nil)) (pe_lst pa_nil))))), ?_⟩
    cases s with
    | sim w ds =>
      have hw := sx_word hs
      rw [datS] at d1
      refine tt_head rfl d1 W.same ?_
      rw [decide_eq_false hw.nif]
      refine if_no rfl ?_
      dsimp only [tNext]
      refine TD.ret (K := K) (p := p) (l := l) (G := G) (φ := fun x => x = .list []) (tx_ifS (z := w) (tx_ix (td_is rfl d1) rfl) (fun e => absurd e hw.nwh) fun _ => tx_lst tx_nil) W (fun v e G' H' x da f => kk v G' H' x (by subst f; exact da))
    | ite t a b =>
      rw [datS] at d1
      refine tt_head rfl d1 W.same ?_
      rw [decide_eq_true rfl]
      refine if_yes rfl ?_
      exact TD.ret (K := K) (p := p) (l := l) (G := G) (φ := fun x => x = .list [.tuple [.int 0, .tuple (datL a)], .tuple [.int 1, .tuple (datL b)]]) (tx_lst (tx_cons (tx_tup (tx_cons tx_int (tx_cons (tx_ix (c := 2) (td_is rfl d1) rfl) tx_nil)) (by show 2 ≤ sizeLine; decide)) (tx_cons (tx_tup (tx_cons tx_int (tx_cons (tx_ix (c := 3) (td_is rfl d1) rfl) tx_nil)) (by show 2 ≤ sizeLine; decide)) tx_nil)) (by show 2 ≤ sizeLine; decide)) W (fun v e G' H' x da f => kk v G' H' x (by subst f; exact da))
    | whl t k a =>
      rw [datS] at d1
      refine tt_head rfl d1 W.same ?_
      rw [decide_eq_false (show ¬ ("while" : Str) = "if" by decide)]
      refine if_no rfl ?_
      dsimp only [tNext]
      exact TD.ret (K := K) (p := p) (l := l) (G := G) (φ := fun x => x = .list [.tuple [.int 0, .tuple (datL a)]]) (tx_ifS (z := "while") (tx_ix (td_is rfl d1) rfl) (fun _ => tx_lst (tx_cons (tx_tup (tx_cons tx_int (tx_cons (tx_ix (c := 3) (td_is rfl d1) rfl) tx_nil)) (by show 2 ≤ sizeLine; decide)) tx_nil) (by show 1 ≤ sizeLine; decide)) fun e => absurd rfl e) W (fun v e G' H' x da f => kk v G' H' x (by subst f; exact da))
theorem D_lall1 (T : Txt K mg) {k n : Nat} (D_l_all_ways : Df P w K mg base k "_law_all_ways" ["statements", "way"] (spWalkedP K n)) : Df P w K mg base (k + 1 + 1) "_law_all_ways" ["statements", "way"] (spWalked K n) := by
  have D_l_inner := (D_linner (P := P) (w := w) (base := base) T).mono (show 1 ≤ k + 1 by omega)
  have D_l_all_ways := D_l_all_ways.mono (show k ≤ k + 1 by omega)
  obtain ⟨f, fd, S⟩ := T.d_l_all_ways
  refine Df.mk' (k := k + 1) S sc_l_all_ways (fun vs H Q E h => ?_) (fun cdv A outer s H vs Q E hgd hr h => ?_)
  · obtain ⟨p, l, G, ds, d, _, da, ⟨ss, y, rfl, _⟩, _⟩ := h
    rw [da.length]
    rfl
  · obtain ⟨p, l, G, ds, d, W, da, ⟨ss, y, rfl, ⟨hs, hc, hy, hl⟩, rfl⟩, kk⟩ := h
    obtain ⟨v, u, rfl, d1, d2⟩ := da.two
    have big : (300000 : Nat) ≤ sizeLine := by decide
    rw [datL_map] at d1
    obtain ⟨A1, xs, rfl, sq, dax⟩ := d1.tupI
    have lx : xs.length = ss.length := by rw [dax.length, List.length_map]
    refine ⟨_, (pss_cons (ps_set (i := 2) sc_l_all_ways.nd rfl (.inl rfl) (pe_lst pa_nil))
      (pss_cons (ps_for PassesOwn.never rfl (pi_enumT rfl T.b_enumerate (pa_cons (pv 0) pa_nil)) (pg_tup rfl (pgs_cons (pg_name (i := 3) sc_l_all_ways.nd rfl (.inl rfl)) (pgs_cons (pg_name (i := 4) sc_l_all_ways.nd rfl (.inl rfl)) pgs_nil)))
      (pss_cons (ps_expr (pe_bm PySem.F.plainAttrs_list PySem.F.slot_list_append PySem.F.type_list_append mt_append (pv 2) (pa_cons (pe_tup (pa_cons (pe_op op_catA (pv 1) (pe_tup (pa_cons (pv 3) pa_nil))) (pa_cons (pv 4) pa_nil))) pa_nil)))
      (pss_one (ps_for PassesOwn.never rfl (pi_list (pe_d D_l_inner hgd hr (pa_cons (pv 4) pa_nil))) (pg_tup rfl (pgs_cons (pg_name (i := 5) sc_l_all_ways.nd rfl (.inl rfl)) (pgs_cons (pg_name (i := 6) sc_l_all_ways.nd rfl (.inl rfl)) pgs_nil)))
      (pss_one (ps_set (i := 2) sc_l_all_ways.nd rfl (.inl rfl) (pe_op op_cat (pv 2) (pe_d D_l_all_ways hgd hr (pa_cons (pv 6) (pa_cons (pe_op op_catA (pv 1) (pe_tup (pa_cons (pv 3) (pa_cons (pv 5) pa_nil)))) pa_nil))))))))))
      (pss_one (ps_ret (pv 2))))), ?_⟩
    refine ⟨by decide, fun L hL => ?_⟩
    have e0 := W.tmp (o := .lst []) hL
    have gL := W.same.free hL
    have nLp := W.np hL
    have nLl := W.nl hL
    have hL0 : (upd H L (.lst [])) L = some (.lst []) := upd_same
    dsimp only [gName, List.set]
    generalize upd H L (.lst []) = H0 at e0 hL0 ⊢
    refine ⟨_, rfl, A1, xs, rfl, sameT e0.w.same sq, ?_⟩
    refine for_enumT (fun j σ' H' => ∃ (L : Addr) (o3 o4 o5 o6 : Option V) (G' : Hp) (vs : List V), σ' = [some (.ref A1), some u, some (.ref L), o3, o4, o5, o6] ∧ Ext p l G H G' H' ∧ H L = none ∧ L ≠ p ∧ L ≠ l ∧ G' L = none ∧ H' L = some (.lst vs) ∧ DaAll K G' vs ((wlL (ss.take j) y 0).map rowW)) ⟨L, _, _, _, _, G, [], rfl, e0, hL, nLp, nLl, gL, hL0, ?_⟩ (fun j σ' H' _ ⟨_, _, _, _, _, G', _, _, e, _⟩ => sameT (e.sub.trans e.w.same) sq) ?_ ?_
    · rw [List.take_zero, wlL]
      exact .nil
    · clear hL0 gL nLp nLl e0 hL
      rintro j x T σ' H1 hx ⟨L, o3, o4, o5, o6, G1, vs, rfl, e1, hL, nLp, nLl, g1, r1, dv1⟩ hT
      obtain ⟨d, hd, dd⟩ := dax.get hx
      rw [List.getElem?_map] at hd
      obtain ⟨z, hz, rfl⟩ := Option.map_eq_some_iff.mp hd
      have dd := dd.mono e1.sub
      have et := e1.w.tmp (o := .tup [.int ((j : Nat) : Int), x]) hT
      refine ⟨T, _, rfl, SqT.of upd_same, rfl, _, _, rfl, _, _, rfl, rfl, ?_⟩
      dsimp only [gName, List.set]
      have nTL : L ≠ T := fun e => by rw [e, hT] at r1; cases r1
      have r2 : (upd H1 T (.tup [.int ((j : Nat) : Int), x])) L = some (.lst vs) := by rw [upd_ne nTL]; exact r1
      generalize upd H1 T (.tup [.int ((j : Nat) : Int), x]) = H2 at et r2 ⊢
      have E3 := e1.trans W et
      have d2' := d2.mono e1.sub
      have mz : z ∈ ss := List.mem_of_getElem? hz
      have oz := hs z mz
      have lv : vs.length = nL (ss.take j) := by rw [dv1.length, List.length_map, wlL_len]
      have lc := nL_take ss j
      have lc2 := nS_mem mz
      have nz : 1 ≤ nS z := by
        have e := wlS_len z []
        rw [wlS_eq, List.length_cons] at e
        omega
      -- the statement itself
      refine ⟨_, rfl, .inl ⟨rfl, _, SqL.of r2⟩, ?_⟩
      refine (show TX K p l _ G1 _ (rowW (y ++ [((j : Nat) : Int)], datS z)) from tx_tup (tx_cons (by rw [← wayD_add]; exact tx_catA (td_is rfl d2') (tx_tup (tx_cons (td_is rfl (.int _)) tx_nil) (by show 1 ≤ sizeLine; decide)) (by rw [List.length_map]; show y.length + 1 ≤ _; omega)) (tx_cons (td_is rfl dd) tx_nil)) (by show 2 ≤ sizeLine; decide)) G1 H2 _ et.w (Same.refl _) fun vv dvv G4 H4 e4 davv hdvv => ?_
      subst hdvv
      refine ⟨L, vs, vv, rfl, rfl, e4.keep _ _ nLp nLl r2, by omega, ?_⟩
      have E4 := E3.trans W e4
      have g4 := e4.new _ _ r2 g1
      have E5 : Ext p l G H G4 (upd H4 L (.lst (vs ++ [vv]))) := ⟨E4.w.own nLp nLl g4, E4.sub, fun b o n1 n2 q => by rw [upd_ne (ne_of_none q hL)]; exact E4.keep b o n1 n2 q, E4.new⟩
      have r5 : (upd H4 L (.lst (vs ++ [vv]))) L = some (.lst (vs ++ [vv])) := upd_same
      have dz5 : DaAll K G4 (vs ++ [vv]) ((wlL (ss.take j) y 0).map rowW ++ [rowW (y ++ [((j : Nat) : Int)], datS z)]) := (dv1.mono e4.sub).append (.cons davv .nil)
      have dd5 := dd.mono e4.sub
      have d25 := d2'.mono e4.sub
      generalize upd H4 L (.lst (vs ++ [vv])) = H5 at E5 r5 ⊢
      generalize vs ++ [vv] = vs5 at r5 dz5
      refine (show TX K p l _ G4 _ (.list (inT (inns z) 0)) from tx_call (tx_cons (td_is rfl dd5) tx_nil) ⟨n, z, rfl, oz, rfl⟩) G4 H5 _ E5.w (Same.refl _) fun iv di G6 H6 e6 div hdi => ?_
      subst hdi
      cases div with
      | @lst I1 is _ ti dis =>
        have E6 := E5.trans W e6
        have r6 := e6.keep _ _ nLp nLl r5
        have g6 := e6.new _ _ r5 g4
        have li : is.length = (inns z).length := by rw [dis.length, inT_len]
        have step := wlL_step hz y
        rw [wlS_eq] at step
        refine ⟨I1, rfl, ⟨is, SqL.of (e6.w.same _ _ ti)⟩, ?_⟩
        refine for_list (xs := is) (fun q σ' H' => ∃ (L : Addr) (o5 o6 : Option V) (G' : Hp) (vs : List V), σ' = [some (.ref A1), some u, some (.ref L), some (.int ((j : Nat) : Int)), some x, o5, o6] ∧ Ext p l G H G' H' ∧ Same G6 G' ∧ H L = none ∧ L ≠ p ∧ L ≠ l ∧ G' L = none ∧ H' L = some (.lst vs) ∧ DaAll K G' vs ((wlL (ss.take j) y 0).map rowW ++ [rowW (y ++ [((j : Nat) : Int)], datS z)] ++ (wlI ((inns z).take q) (y ++ [((j : Nat) : Int)]) 0).map rowW)) ⟨L, _, _, G6, vs5, rfl, E6, Same.refl _, hL, nLp, nLl, g6, r6, ?_⟩ (fun q σ' H' _ ⟨_, _, _, G', _, _, e, s, _⟩ => SqL.of (e.w.same _ _ (s _ _ ti))) ?_ ?_
        · rw [List.take_zero, wlI, List.map_nil, List.append_nil]
          exact dz5.mono e6.sub
        · clear r6 g6 r5 g4 E6 r2 r1 g1 nTL
          clear nLp nLl hL
          rintro q xi σ' H7 hxi ⟨L, o5, o6, G7, vs7, rfl, E7, s7, hL, nLp, nLl, g7, r7, dv7⟩
          obtain ⟨d, hd, ddi⟩ := dis.get hxi
          obtain ⟨zi, hzi, rfl⟩ := inT_get hd
          have ddi := ddi.mono s7
          obtain ⟨B1, bs, rfl, sqb, dbx⟩ := ddi.tupI
          obtain ⟨b0, b1, rfl, q0, q1⟩ := dbx.two
          rw [Nat.zero_add] at q0
          cases q0
          refine ⟨B1, _, rfl, sameT E7.w.same sqb, rfl, _, _, rfl, _, _, rfl, rfl, ?_⟩
          dsimp only [gName, List.set]
          have mi : zi ∈ inns z := List.mem_of_getElem? hzi
          cases n with
          | zero =>
            rw [inns_no oz] at mi
            exact absurd mi List.not_mem_nil
          | succ n =>
            obtain ⟨h1, h2⟩ := inns_ok oz mi
            have h3 := nS_inn mi
            obtain ⟨w8, s8⟩ := E7.w.hold nLp nLl g7 r7
            have E8 : Ext p l G H (upd G7 L (.lst vs7)) H7 := ⟨w8, E7.sub.trans s8, E7.keep, fun b o q g => by rw [upd_ne (ne_of_none q hL)]; exact E7.new b o q g⟩
            have dm : Da K (upd G7 L (.lst vs7)) (.ref L) (.list _) := .lst upd_same (dv7.mono s8)
            have q18 := q1.mono s8
            have d28 := d25.mono (e6.sub.trans (s7.trans s8))
            have lw : (wlI ((inns z).take q) (y ++ [((j : Nat) : Int)]) 0).length ≤ nS z := by
              have e := wlS_len z (y ++ [((j : Nat) : Int)])
              rw [wlS_eq, List.length_cons] at e
              have mono : ∀ (ls ms : List (List Sx)) (y : List Int) (n : Nat), (wlI ls y n).length ≤ (wlI (ls ++ ms) y n).length := fun ls => by
                induction ls with
                | nil => exact fun ms y n => Nat.zero_le _
                | cons a ls ih =>
                  intro ms y n
                  rw [List.cons_append, wlI, wlI, List.length_append, List.length_append]
                  have := ih ms y (n + 1)
                  omega
              have h := mono ((inns z).take q) ((inns z).drop q) (y ++ [((j : Nat) : Int)]) 0
              rw [List.take_append_drop] at h
              omega
            have lall : ((wlL (ss.take j) y 0).map rowW ++ [rowW (y ++ [((j : Nat) : Int)], datS z)] ++ (wlI ((inns z).take q) (y ++ [((j : Nat) : Int)]) 0).map rowW).length ≤ 200001 := by
              rw [List.length_append, List.length_append, List.length_map, List.length_map, wlL_len]
              show _ + 1 + _ ≤ _
              omega
            have s7' := s7.trans s8
            generalize upd G7 L (.lst vs7) = G8 at w8 s8 E8 dm q18 d28 s7'
            refine asg_own (K := K) (p := p) (l := l) (G := G8) (bs := (wlL zi (y ++ [((j : Nat) : Int)] ++ [((q : Nat) : Int)]) 0).map rowW) (td_is rfl dm) (tx_call (ds := [.tuple (datL zi), wayD (y ++ [((j : Nat) : Int)] ++ [((q : Nat) : Int)])]) (tx_cons (td_is rfl q18) (tx_cons (by
              rw [show wayD (y ++ [((j : Nat) : Int)] ++ [((q : Nat) : Int)]) = .tuple (y.map .int ++ [.int ((j : Nat) : Int), .int ((q : Nat) : Int)]) by rw [wayD, List.map_append, List.map_append, List.append_assoc]; rfl]
              exact tx_catA (td_is rfl d28) (tx_tup (tx_cons (td_is rfl (.int _)) (tx_cons (td_is rfl (.int _)) tx_nil)) (by show 2 ≤ sizeLine; decide)) (by rw [List.length_map]; show y.length + 2 ≤ _; omega)) tx_nil)) ⟨zi, _, rfl, ⟨h2, by omega, by rw [List.length_append, List.length_append]; show y.length + 1 + 1 + 2 * n ≤ 100; omega, by omega⟩, rfl⟩) (by rw [List.length_map, wlL_len]; omega) w8 fun c ws G9 H9 e9 hc9 cp cl g9 r9 d9 => ?_
            refine ⟨c, _, _, G9, ws, rfl, E8.trans W e9, s7'.trans e9.sub, E8.old hc9, cp, cl, g9, r9, ?_⟩
            rw [wlI_step hzi, List.map_append, ← List.append_assoc]
            exact d9
        · rintro σ' H7 ⟨L, o5, o6, G7, vs7, rfl, E7, s7, hL, nLp, nLl, g7, r7, dv7⟩
          refine ⟨L, _, _, _, _, G7, vs7, rfl, E7, hL, nLp, nLl, g7, r7, ?_⟩
          rw [step, List.map_append, List.map_cons]
          rw [li, List.take_length] at dv7
          simpa only [List.append_assoc, List.cons_append, List.nil_append] using dv7
    · rintro σ' H1 ⟨L, o3, o4, o5, o6, G1, vs, rfl, e1, hL, nLp, nLl, g1, r1, dv1⟩
      obtain ⟨w4, s4⟩ := e1.w.hold nLp nLl g1 r1
      rw [lx, List.take_length] at dv1
      exact ⟨_, rfl, kk (.ref L) (upd G1 L (.lst vs)) H1 ⟨w4, e1.sub.trans s4, e1.keep, fun b o q g => by rw [upd_ne (ne_of_none q hL)]; exact e1.new b o q g⟩ (.lst upd_same (dv1.mono s4))⟩
theorem D_lallN (T : Txt K mg) : ∀ n : Nat, Df P w K mg base (2 * n + 2) "_law_all_ways" ["statements", "way"] (spWalked K n)
  | 0 => D_lall1 T (k := 0) (n := 0) (D_no T.d_l_all_ways)
  | n + 1 => D_lall1 T (D_lallN T n)
end
end L2.Hx

/-! Names of a function, its ways, a statement by its way. -/
namespace L2.Hx
open PySem PySem.Spec PyProof.Rows
def FnS (ss : List Sx) (d : PyData) : Prop := ∃ a0 a1 a2 a3 a4 a5, d = .tuple [a0, a1, a2, a3, a4, a5, .tuple (datL ss)]
def FnN (zs : List Str) (d : PyData) : Prop := ∃ (a0 : PyData) (a b c r : List PyData), d = .tuple (a0 :: .tuple a :: .tuple b :: .tuple c :: r) ∧ a ++ b ++ c = zs.map .str ∧ zs.length ≤ 40
def sortS (xs : List Str) : List Str := xs.mergeSort (PySem.W.dataLe false PyData.str)
def namesD (zs : List Str) : PyData := .tuple ((sortS (zs ++ [("result" : Str)])).map .str)
def waysD (ss : List Sx) : PyData := .tuple ((wlL ss [] 0).map fun r => wayD r.1)
def findW (rs : List Wr) (w : List Int) : Option PyData := (rs.find? fun r => decide (r.1 = w)).map (·.2)
def spNames (K : PySem.W.Frag) : Sp := spF K fun ds d => ∃ zs fd, ds = [fd] ∧ FnN zs fd ∧ d = namesD zs
def spWaysOf (K : PySem.W.Frag) : Sp := spF K fun ds d => ∃ ss fd, ds = [fd] ∧ FnS ss fd ∧ WkOk 4 ss [] ∧ d = waysD ss
def spAt0 (K : PySem.W.Frag) : Sp := spF K fun ds d => ∃ ss fd w, ds = [fd, wayD w] ∧ FnS ss fd ∧ WkOk 4 ss [] ∧ findW (wlL ss [] 0) w = some d
def spAt (K : PySem.W.Frag) (C : Addr) : Sp := fun vs H Q E => ∃ (p l : Addr) (G : Hp) (ss : List Sx) (fd : PyData) (w : List Int), Wd p l G H ∧ DaAll K G vs [fd, wayD w] ∧ FnS ss fd ∧ WkOk 4 ss [] ∧
  (findW (wlL ss [] 0) w = none → ∀ G' H', Ext p l G H G' H' → E (.ref C) none H') ∧ ∀ d, findW (wlL ss [] 0) w = some d → ∀ v G' H', Ext p l G H G' H' → Da K G' v d → Q v H'
theorem lay_ints : ∀ y : List Int, PyData.canLayAll0 (y.map .int) = true
  | [] => rfl
  | x :: y => by
    show PyData.canLayAll0 (.int x :: y.map .int) = true
    rw [PyData.canLayAll0, lay_ints y]
    simp [PyData.canLay0]
theorem way_shp (y : List Int) : Shp (wayD y) := by
  refine ⟨by simpa [wayD, PyData.canLay0] using lay_ints y, ?_⟩
  rw [wayD, PyData.depth, PySem.W.depth_ints]
  decide
theorem shp_shaped {d : PyData} (h : Shp d) : SeqAt.shaped d = true := by
  unfold SeqAt.shaped
  rw [Bool.and_eq_true]
  exact ⟨h.1, decide_eq_true (by have := h.2; omega)⟩
theorem eqv_ints : ∀ a b : List Int, PyData.eqvAll (a.map .int) (b.map .int) = decide (a = b)
  | [], [] => by simp [PyData.eqvAll]
  | [], y :: b => by simp [PyData.eqvAll]
  | x :: a, [] => by simp [PyData.eqvAll]
  | x :: a, y :: b => by
    show PyData.eqvAll (.int x :: a.map .int) (.int y :: b.map .int) = _
    rw [PyData.eqvAll, eqv_ints a b]
    by_cases h : x = y
    · simp [PyData.eqv, h]
    · simp [PyData.eqv, h]
theorem eqv_way (a b : List Int) : PyData.eqv (wayD a) (wayD b) = decide (a = b) := by
  rw [wayD, wayD, PyData.eqv]
  exact eqv_ints a b
section
variable {P : Program} {w : World} {K : PySem.W.Frag} {mg : Str → Option Value} {base : Heap} {p l : Addr} {σ : St} {G : Hp} {φ ψ : PyData → Prop} {t ta tb te : TE} {tt : TT} {tr : TA} {m : Nat}
theorem da_strsI : ∀ {vs : List V} {zs : List Str}, DaAll K G vs (zs.map .str) → vs = zs.map V.str
  | _, [], .nil => rfl
  | _, z :: zs, .cons h t => by
    cases h
    rw [da_strsI t]
    rfl
theorem tx_sortS {zs : List Str} (ha : TX K p l σ G ta (.tuple (zs.map .str)) ∨ TX K p l σ G ta (.list (zs.map .str))) : TX K p l σ G (tCB (rSortedTS K) (tCons ta tNil)) (.list ((sortS zs).map .str)) := fun G1 H Q W s k => by
  rcases ha with ha | ha
  · refine ha G1 H _ W s fun v d G2 H2 e da f => ?_
    subst f
    obtain ⟨a, xs, rfl, t1, a1⟩ := da.tupI
    rw [da_strsI a1] at t1
    refine ⟨a, zs, rfl, .inr (sameT e.w.same t1), fun q hq => ?_⟩
    exact k _ _ _ _ (e.trans W (e.w.put hq)) (.lst upd_same (da_strs _)) rfl
  · refine ha G1 H _ W s fun v d G2 H2 e da f => ?_
    subst f
    cases da with
    | @lst a xs _ t1 a1 =>
      rw [da_strsI a1] at t1
      refine ⟨a, zs, rfl, .inl (SqL.of (e.w.same _ _ t1)), fun q hq => ?_⟩
      exact k _ _ _ _ (e.trans W (e.w.put hq)) (.lst upd_same (da_strs _)) rfl
theorem DS_names (T : Txt K mg) : DfS P w K mg base 1 "names_of" s_names_of ["function"] (spNames K) := by
  obtain ⟨f, fd, S⟩ := T.d_names_of
  refine DfS.mk' (k := 0) S sc_names_of (fun vs H Q E h => ?_) (fun cdv A outer s H vs Q E hgd hr h => ?_)
  · obtain ⟨p, l, G, ds, d, _, da, ⟨ss, fd, rfl, _⟩, _⟩ := h
    rw [da.length]
    rfl
  · obtain ⟨p, l, G, ds, d, W, da, ⟨zs, fd, rfl, ⟨a0, a, b, c, r, rfl, hz, lz⟩, rfl⟩, kk⟩ := h
    obtain ⟨v, rfl, d1⟩ := da.one
    have big : (300000 : Nat) ≤ sizeLine := by decide
    have ll := congrArg List.length hz
    rw [List.length_append, List.length_append, List.length_map] at ll
    refine ⟨_, (pss_one (ps_ret (pe_callTy call_tuple_of (by rfl) T.b_tuple (by decide +kernel) (pa_cons (pe_callB (cr_sortedTS hr.units) (by rfl) T.b_sorted (by decide +kernel) (pa_cons (pe_op op_catA (pe_op op_catA (pe_op op_catA (pe_ix ix_tup (pv 0) pe_int (fun _ _ => rfl)) (pe_ix ix_tup (pv 0) pe_int (fun _ _ => rfl))) (pe_ix ix_tup (pv 0) pe_int (fun _ _ => rfl))) (pe_tup (pa_cons pe_str pa_nil))) pa_nil)) pa_nil)))), ?_⟩
    refine TD.ret (K := K) (p := p) (l := l) (G := G) (φ := fun x => x = namesD zs) (tx_tupOfL (tx_sortS (.inl ?_))) W (fun v e G' H' x da f => kk v G' H' x (by subst f; exact da))
    rw [List.map_append, ← hz]
    exact tx_catA (tx_catA (tx_catA (tx_ix (c := 1) (td_is rfl d1) rfl) (tx_ix (c := 2) (td_is rfl d1) rfl) (by omega)) (tx_ix (c := 3) (td_is rfl d1) rfl) (by rw [List.length_append]; omega)) (tx_tup (tx_cons tx_str tx_nil)) (by rw [List.length_append, List.length_append]; show _ + 1 ≤ _; omega)
theorem DS_ways (T : Txt K mg) : DfS P w K mg base 11 "ways_of" s_ways_of ["function"] (spWaysOf K) := by
  have D_walked := D_walkedN (P := P) (w := w) (base := base) T 4
  obtain ⟨f, fd, S⟩ := T.d_ways_of
  refine DfS.mk' (k := 10) S sc_ways_of (fun vs H Q E h => ?_) (fun cdv A outer s H vs Q E hgd hr h => ?_)
  · obtain ⟨p, l, G, ds, d, _, da, ⟨ss, fd, rfl, _⟩, _⟩ := h
    rw [da.length]
    rfl
  · obtain ⟨p, l, G, ds, d, W, da, ⟨ss, fd, rfl, ⟨a0, a1, a2, a3, a4, a5, rfl⟩, hs, rfl⟩, kk⟩ := h
    obtain ⟨v, rfl, d1⟩ := da.one
    have big : (300000 : Nat) ≤ sizeLine := by decide
    have hc := hs.2.1
    refine ⟨_, (pss_one (ps_ret (pe_callTy call_tuple_of (by rfl) T.b_tuple (by decide +kernel) (pa_cons (pe_lc (X := (cxOf CX0 P w K mg base ["function", "way", "_"] "ways_of" (defScope s_ways_of) f cdv A outer s H E).nox) (own := [("way", 1), ("_", 2)]) (g := gTup K 2 (gCons (gName 1) (gCons (gName 2) gNil))) (tt := tYes) rfl sc_ways_of.nd (pi_list (pe_d D_walked hgd hr (pa_cons (pe_ix ix_tup (pv 0) pe_int (fun _ _ => rfl)) (pa_cons (pe_tup pa_nil) pa_nil)))) (blkOk_by (own := [("way", 1), ("_", 2)]) (N := ["function", "way", "_"]) (sc := defScope s_ways_of) (by decide +kernel)) (fun _ _ _ _ _ => pg_tup rfl (pgs_cons (pg_name (i := 1) sc_ways_of.nd rfl (.inl rfl)) (pgs_cons (pg_name (i := 2) sc_ways_of.nd rfl (.inl rfl)) pgs_nil))) (fun _ _ _ _ _ => pts_nil) (fun _ _ _ _ _ => (pv 1))) pa_nil)))), ?_⟩
    refine TD.ret (K := K) (p := p) (l := l) (G := G) (φ := fun x => x = waysD ss) ?_ W (fun v e G' H' x da f => kk v G' H' x (by subst f; exact da))
    refine tx_tupOfL (tx_lcL (A := rowW) (B := fun r => wayD r.1) (tx_call (tx_cons (tx_ix (c := 6) (td_is rfl d1) rfl) (tx_cons (tx_tup tx_nil) tx_nil)) ⟨ss, [], rfl, hs, rfl⟩) (by rw [wlL_len]; omega) fun r mr x G1 H1 R dx W1 s1 kR => ?_)
    obtain ⟨B, ys, rfl, sqb, dbx⟩ := dx.tupI
    obtain ⟨y0, y1, rfl, q0, q1⟩ := dbx.two
    exact ⟨B, _, rfl, sameT W1.same sqb, rfl, _, _, rfl, _, _, rfl, rfl, rfl, _, rfl, kR _ _ _ (Ext.refl W1) q0⟩
/-- two ways beside one another -/
theorem way_eq {i j : Nat} {v u : V} {a b : List Int} {H : Hp} {Q : VK} (hi : σ[i]? = some (some v)) (hj : σ[j]? = some (some u)) (hv : Da K G v (wayD a)) (hu : Da K G u (wayD b)) (s : Same G H) (hq : Q (.bl (decide (a = b))) H) : tOp (rEqD K) (tVar i) (tVar j) σ H Q := by
  refine ⟨_, hi, _, hj, wayD a, wayD b, hv.dp s (way_shp a).1, hu.dp s (way_shp b).1, shp_shaped (way_shp a), shp_shaped (way_shp b), ?_⟩
  rw [eqv_way]
  exact hq
/-- rows gone through for a way -/
theorem at_walk {R : TS} {D : Ends} {H : Hp} {v u : V} {ss : List Sx} {fd : PyData} {y : List Int} (W : Wd p l G H) (hv : Da K G v fd) (hu : Da K G u (wayD y)) (hf : FnS ss fd) (hs : WkOk 4 ss [])
    (kn : findW (wlL ss [] 0) y = none → ∀ σ' G' H', Ext p l G H G' H' → R D σ' H') (kf : ∀ d, findW (wlL ss [] 0) y = some d → ∀ v G' H', Ext p l G H G' H' → Da K G' v d → D.rt v H') :
    tSeq (tFor (iList K (tCall (spWalked K 4) [] E0 (tCons (tOp (rIxT K) (tVar 0) (tC (.int 6))) (tCons (tTup tNil) tNil)))) (gTup K 2 (gCons (gName 2) (gCons (gName 3) gNil))) (tIfS (tTest (tOp (rEqD K) (tVar 2) (tVar 1))) (tRet (tVar 3)) tNext)) R D [some v, some u, none, none] H := by
  obtain ⟨a0, a1, a2, a3, a4, a5, rfl⟩ := hf
  refine (show TX K p l _ G _ (.list ((wlL ss [] 0).map rowW)) from tx_call (tx_cons (tx_ix (c := 6) (td_is rfl hv) rfl) (tx_cons (tx_tup tx_nil) tx_nil)) ⟨ss, [], rfl, hs, rfl⟩) G H _ W (Same.refl _) fun rv dr G1 H1 e1 drv hdr => ?_
  subst hdr
  cases drv with
  | @lst I1 xs _ t1 dx =>
    refine ⟨I1, rfl, ⟨xs, SqL.of (e1.w.same _ _ t1)⟩, ?_⟩
    have hu1 := hu.mono e1.sub
    have lx : xs.length = (wlL ss [] 0).length := by rw [dx.length, List.length_map]
    generalize wlL ss [] 0 = rs at dx lx kn kf
    refine for_list (xs := xs) (fun q σ' H' => ∃ o2 o3, σ' = [some v, some u, o2, o3] ∧ H' = H1 ∧ findW (rs.take q) y = none) ⟨_, _, rfl, rfl, rfl⟩ (fun q σ' H' _ ⟨_, _, _, e, _⟩ => by rw [e]; exact SqL.of (e1.w.same _ _ t1)) ?_ ?_
    · rintro q x σ' H' hx ⟨o2, o3, rfl, rfl, hn⟩
      obtain ⟨d, hd, dd⟩ := dx.get hx
      rw [List.getElem?_map] at hd
      obtain ⟨r, hr, rfl⟩ := Option.map_eq_some_iff.mp hd
      obtain ⟨B, bs, rfl, sqb, dbx⟩ := dd.tupI
      obtain ⟨b0, b1, rfl, q0, q1⟩ := dbx.two
      refine ⟨B, _, rfl, sameT e1.w.same sqb, rfl, _, _, rfl, _, _, rfl, rfl, ?_⟩
      dsimp only [gName, List.set]
      have split : findW (rs.take (q + 1)) y = if r.1 = y then some r.2 else none := by
        rw [List.take_succ, hr]
        unfold findW at hn ⊢
        rw [List.find?_append]
        have hn' : (rs.take q).find? (fun r => decide (r.1 = y)) = none := by
          cases e : (rs.take q).find? (fun r => decide (r.1 = y)) with
          | none => rfl
          | some z => rw [e] at hn; cases hn
        rw [hn']
        by_cases h : r.1 = y
        · simp [h]
        · simp [h]
      have whole : findW rs y = none ∨ True := .inr trivial
      refine way_eq rfl rfl q0 hu1 e1.w.same ⟨_, rfl, ?_⟩
      by_cases h : r.1 = y
      · rw [decide_eq_true h]
        refine if_yes rfl ⟨_, rfl, kf r.2 ?_ _ G1 _ e1 q1⟩
        rw [if_pos h] at split
        have e : rs = rs.take (q + 1) ++ rs.drop (q + 1) := (List.take_append_drop _ _).symm
        rw [e]
        unfold findW at split ⊢
        rw [List.find?_append]
        cases z : (rs.take (q + 1)).find? (fun r => decide (r.1 = y)) with
        | none => rw [z] at split; cases split
        | some z2 =>
          rw [z] at split
          exact split
      · rw [decide_eq_false h]
        refine if_no rfl ⟨_, _, rfl, rfl, ?_⟩
        rw [split, if_neg h]
    · rintro σ' H' ⟨o2, o3, rfl, rfl, hn⟩
      rw [lx, List.take_length] at hn
      exact kn hn _ G1 _ e1
theorem D_at (T : Txt K mg) {C : Addr} (hU : OwnExc K mg "Unfit" C) : DfX P w K mg base 11 "statement_at" s_statement_at ["function", "way"] (spAt K C) := by
  have D_walked := D_walkedN (P := P) (w := w) (base := base) T 4
  obtain ⟨f, fd, S⟩ := T.d_statement_at
  refine DfX.mk' (k := 10) S sc_statement_at (fun vs H Q E h => ?_) (fun cdv A outer s H vs Q E hgd hr h => ?_)
  · obtain ⟨p, l, G, ss, fd, w, _, da, _⟩ := h
    rw [da.length]
    rfl
  · obtain ⟨p, l, G, ss, fd, y, W, da, hf, hs, kn, kf⟩ := h
    obtain ⟨v, u, rfl, d1, d2⟩ := da.two
    have tkE : Takes (cxOf (L2.CX P w) P w K mg base ["function", "way", "known", "statement"] "statement_at" (defScope s_statement_at) f cdv A outer s H E) (fun cls d _ H => E cls d H) := takes_of rfl rfl rfl rfl
    refine ⟨_, (pss_cons (ps_for (passes_of rfl) rfl (pi_list (pe_d D_walked hgd hr (pa_cons (pe_ix ix_tup (pv 0) pe_int (fun _ _ => rfl)) (pa_cons (pe_tup pa_nil) pa_nil)))) (pg_tup rfl (pgs_cons (pg_name (i := 2) sc_statement_at.nd rfl (.inl rfl)) (pgs_cons (pg_name (i := 3) sc_statement_at.nd rfl (.inl rfl)) pgs_nil)))
      (pss_one (ps_if (pt_cmpR (op_eqD hr.units) (pv 2) (pv 1) (nomark _)) (pss_one (ps_ret (pv 3))) pss_nil)))
      (pss_one (ps_raise0 rfl tkE hU))), ?_⟩
    exact at_walk W d1 d2 hf hs (fun h σ' G' H' e => kn h G' H' e) fun d h v G' H' e dd => kf d h v G' H' e dd
theorem DS_at0 (T : Txt K mg) {C : Addr} (hU : OwnExc K mg "Unfit" C) : DfS P w K mg base 11 "statement_at" s_statement_at ["function", "way"] (spAt0 K) := by
  have D_walked := D_walkedN (P := P) (w := w) (base := base) T 4
  obtain ⟨f, fd, S⟩ := T.d_statement_at
  refine DfS.mk' (k := 10) S sc_statement_at (fun vs H Q E h => ?_) (fun cdv A outer s H vs Q E hgd hr h => ?_)
  · obtain ⟨p, l, G, ds, d, _, da, ⟨ss, fd, w, rfl, _⟩, _⟩ := h
    rw [da.length]
    rfl
  · obtain ⟨p, l, G, ds, d, W, da, ⟨ss, fd, y, rfl, hf, hs, hd⟩, kk⟩ := h
    obtain ⟨v, u, rfl, d1, d2⟩ := da.two
    refine ⟨_, (pss_cons (ps_for PassesOwn.never rfl (pi_list (pe_d D_walked hgd hr (pa_cons (pe_ix ix_tup (pv 0) pe_int (fun _ _ => rfl)) (pa_cons (pe_tup pa_nil) pa_nil)))) (pg_tup rfl (pgs_cons (pg_name (i := 2) sc_statement_at.nd rfl (.inl rfl)) (pgs_cons (pg_name (i := 3) sc_statement_at.nd rfl (.inl rfl)) pgs_nil)))
      (pss_one (ps_if (pt_cmpR (op_eqD hr.units) (pv 2) (pv 1) (nomark _)) (pss_one (ps_ret (pv 3))) pss_nil)))
      (pss_one (ps_raise0 rfl takes0 hU))), ?_⟩
    refine at_walk W d1 d2 hf hs (fun h => ?_) fun d' h v G' H' e dd => ?_
    · rw [hd] at h
      cases h
    · rw [hd] at h
      cases h
      exact kk v G' H' e dd
end
end L2.Hx

/-! Whether a way is told rightly. -/
namespace L2.Hx
open PySem PySem.Spec PyProof.Rows
theorem pss_if {X : Cx} {p : Prop} {st : List Stmt} {t : TS} (h : p → PSs X st t) : PSs X st (fun D σ H => p ∧ t D σ H) := ⟨fun pins s σ H D I hw => (h hw.1).run pins s σ H D I hw.2⟩
theorem pe_kwd {X : Cx} {k j : Nat} {x : Str} {ps ks : List Str} {sp : Sp} {p pos : Pos} {kws : List Keyword} {tk : TA} (F : ∃ f fd, FnG X.prog X.w X.K X.mg X.base CX0 k f fd ps sp ∧ X.mg x = some (.ref f) ∧ PySem.W.keepIn X.K (.ref f) = true ∧ KwBinds X.K fd ps ks (fun us => us)) (hgd : X.A.guards = some []) (hr : Room j X.A) (hkw : PK X kws tk) (hj : k ≤ j := by first | exact Nat.le_refl _ | decide)
    (hg : Gl X x := by rfl) (hall : (backToKw pos (keywordEach kws X.env)).all (·.1.isSome) = true := by rfl) (hks : (backToKw pos (keywordEach kws X.env)).filterMap (·.1) = ks := by rfl) (hdb : (x == ("__debug__" : Str)) = false := by decide)
    (hpl : ((backTo pos (starEach [] X.env)).any (·.1) || (backToKw pos (keywordEach kws X.env)).any (·.1.isNone)) = false := by rfl) :
    PE X (.Call (.Name x p) [] kws pos) (tKw sp (fun us => us) ps.length E0 tk) := by
  obtain ⟨f, fd, a, b, c, d⟩ := F
  exact pe_kw a hgd (hr.mono hj) hg b c d pass0 hkw (fun r => r) hall hks hdb hpl
def spToldA (K : PySem.W.Frag) : Sp := spF K fun ds d => ∃ ss fd w, ds = [fd, wayD w, .list ((wlL ss [] 0).map rowW)] ∧ FnS ss fd ∧ WkOk 4 ss [] ∧ (∀ r ∈ wlL ss [] 0, Okd 60 16000000 r.2) ∧ d = .bool true
def dueW (rs : List Wr) (w : List Int) : List PyData := (rs.filter fun r => decide (r.1 = w)).map (·.2)
theorem due_head (rs : List Wr) (w : List Int) : (dueW rs w).head? = findW rs w := by
  unfold dueW findW
  rw [List.head?_map, List.head?_filter]
section
variable {P : Program} {w : World} {K : PySem.W.Frag} {mg : Str → Option Value} {base : Heap} {p l : Addr} {σ : St} {G : Hp} {φ ψ : PyData → Prop} {t ta tb te : TE} {tt : TT} {tr : TA} {m : Nat}
theorem tx_repr {d : PyData} (h : TX K p l σ G ta d) (ok : Okd 60 16000000 d) : TX K p l σ G (tCB (rRepr K) (tCons ta tNil)) (.str d.shown) := fun G1 H Q W s k =>
  h G1 H _ W s fun v d' G2 H2 e da f => by
    subst f
    obtain ⟨a, b⟩ := ok_show ok.ok
    refine ⟨v, _, G2, rfl, e.w.same, da, a, ok.dp, ?_, k _ _ _ _ e (.str _) rfl⟩
    have := ok.sz
    have : (16000000 : Nat) ≤ sizeLine := by decide
    omega
theorem tx_kw1 {R : List PyData → PyData → Prop} {e d : PyData} (h : TX K p l σ G ta e) (hR : R [e] d) : TX K p l σ G (tKw (spF K R) (fun us => us) 1 E0 (tCons ta tNil)) d := fun G1 H Q W s k =>
  h G1 H _ W s fun v d' G2 H2 e da f => by
    subst f
    exact ⟨rfl, p, l, G2, _, d, e.w, .cons da .nil, hR, fun v G3 H3 e3 dd => k v d G3 H3 (e.trans W e3) dd rfl⟩
theorem tt_ne {x y : Str} (ha : TX K p l σ G ta (.str x)) (hb : TX K p l σ G tb (.str y)) : ∀ (G1 H : Hp) (Q : Bool → Hp → Prop), Wd p l G1 H → Same G G1 → (∀ G2 H2, Ext p l G1 H G2 H2 → Q (!decide (x = y)) H2) → tTest (tOp rNe ta tb) σ H Q := fun G1 H Q W s k =>
  ha G1 H _ W s fun v d G2 H2 e da f => hb G2 H2 _ e.w (s.trans e.sub) fun u d2 G3 H3 e3 da3 f3 => by
    subst f f3
    cases da
    cases da3
    refine ⟨rfl, _, rfl, ?_⟩
    rw [show decide (V.str x = V.str y) = decide (x = y) from decide_eq_decide.mpr ⟨fun h => by injection h, fun h => by rw [h]⟩]
    exact k _ _ (e.trans W e3)
theorem tx_eqS {x y : Str} (ha : TX K p l σ G ta (.str x)) (hb : TX K p l σ G tb (.str y)) : TX K p l σ G (tOp rEq ta tb) (.bool (decide (x = y))) := fun G1 H Q W s k =>
  ha G1 H _ W s fun v d G2 H2 e da f => hb G2 H2 _ e.w (s.trans e.sub) fun u d2 G3 H3 e3 da3 f3 => by
    subst f f3
    cases da
    cases da3
    refine ⟨rfl, ?_⟩
    rw [show decide (V.str x = V.str y) = decide (x = y) from decide_eq_decide.mpr ⟨fun h => by injection h, fun h => by rw [h]⟩]
    exact k _ _ _ _ (e.trans W e3) (.bl _) rfl
theorem tx_ixL {c : Nat} {ds : List PyData} {d : PyData} (ha : TX K p l σ G ta (.list ds)) (hc : ds[c]? = some d) : TX K p l σ G (tOp (rIxL K) ta (tC (.int (c : Int)))) d := fun G1 H Q W s k =>
  ha G1 H _ W s fun v d2 G2 H2 e da f => by
    subst f
    cases da with
    | @lst a xs _ t1 a1 =>
      have hl := a1.length
      have lt := (List.getElem?_eq_some_iff.mp hc).1
      have hx := List.getElem?_eq_getElem (show c < xs.length by omega)
      refine ⟨a, xs, (c : Int), xs[c]'(by omega), rfl, rfl, SqL.of (e.w.same _ _ t1), ?_, ?_⟩
      rotate_left 1
      · obtain ⟨d2, e2, q2⟩ := a1.get hx
        rw [hc] at e2
        rw [← Option.some.inj e2] at q2
        exact k _ d _ _ e q2 rfl
      unfold atI ixN
      rw [if_pos (by omega), if_pos (by omega)]
      exact hx
theorem due_lc {v u R : V} {rs : List Wr} {y : List Int} (hR : Da K G R (.list (rs.map rowW))) (hu : Da K G u (wayD y)) (hz : rs.length < sizeLine) :
    TX K p l [some v, some u, some R, none, none, none, none, none] G (tLc (iList K (tVar 2)) (gTup K 2 (gCons (gName 4) (gCons (gName 5) gNil))) (tTest (tOp (rEqD K) (tVar 4) (tVar 1))) (tVar 5) [4, 5]) (.list (dueW rs y)) := fun G1 H Q W s k => by
  have hR := hR.mono s
  have hu := hu.mono s
  cases hR with
  | @lst I1 xs _ t1 dx =>
    refine ⟨_, rfl, I1, rfl, ⟨xs, SqL.of (W.same _ _ t1)⟩, fun D hD => ?_⟩
    have lx : xs.length = rs.length := by rw [dx.length, List.length_map]
    have nI : I1 ≠ D := fun e => by
      have := W.same _ _ t1
      rw [e, hD] at this
      cases this
    refine lc_list (Qd := Q (.ref D)) (xs := xs) (fun i H3 => ∃ ys, H3 D = some (.lst ys) ∧ (∀ b, b ≠ D → H3 b = H b) ∧ DaAll K G1 ys (dueW (rs.take i) y) ∧ ys.length ≤ i) ⟨[], upd_same, fun b n => upd_ne n, .nil, Nat.le_refl _⟩ (fun i H3 _ ⟨_, _, e, _⟩ => SqL.of (by rw [e _ nI]; exact W.same _ _ t1)) ?_ ?_
    · rintro i x H3 hx ⟨ys, hy, hb, dy, ly⟩
      obtain ⟨d, hd, dd⟩ := dx.get hx
      rw [List.getElem?_map] at hd
      obtain ⟨r, hr, rfl⟩ := Option.map_eq_some_iff.mp hd
      have lt := (List.getElem?_eq_some_iff.mp hr).1
      obtain ⟨B, bs, rfl, sqb, dbx⟩ := dd.tupI
      obtain ⟨b0, b1, rfl, q0, q1⟩ := dbx.two
      have s3 : Same G1 H3 := fun b o q => by
        have h1 := W.same b o q
        rw [hb b fun e => by rw [e, hD] at h1; cases h1]
        exact h1
      refine ⟨B, _, rfl, sameT s3 sqb, rfl, _, _, rfl, _, _, rfl, rfl, rfl, ?_⟩
      have split : dueW (rs.take (i + 1)) y = dueW (rs.take i) y ++ if r.1 = y then [r.2] else [] := by
        unfold dueW
        rw [List.take_succ, hr, List.filter_append, List.map_append]
        congr 1
        show List.map _ (List.filter _ [r]) = _
        by_cases h : r.1 = y
        · simp [h]
        · simp [h]
      refine way_eq rfl rfl q0 hu s3 ⟨_, rfl, ?_⟩
      by_cases h : r.1 = y
      · rw [decide_eq_true h]
        refine if_yes rfl ⟨_, rfl, ys, hy, by omega, ys ++ [b1], upd_same, fun b n => by rw [upd_ne n]; exact hb b n, ?_, by rw [List.length_append]; show _ + 1 ≤ _; omega⟩
        rw [split, if_pos h]
        exact dy.append (.cons q1 .nil)
      · rw [decide_eq_false h]
        refine if_no rfl ⟨ys, hy, hb, ?_, by omega⟩
        rw [split, if_neg h, List.append_nil]
        exact dy
    · rintro H3 ⟨ys, hy, hb, dy, _⟩
      rw [lx, List.take_length] at dy
      have e : H3 = upd H D (.lst ys) := funext fun b => by
        by_cases z : b = D
        · rw [z, hy, upd_same]
        · rw [upd_ne z, hb b z]
      have ep := W.put (o := .lst ys) hD
      rw [e]
      exact k _ _ _ _ ep (.lst upd_same (dy.mono ep.sub)) rfl
theorem D_told (T : Txt K mg) : Df P w K mg base 12 "_law_is_told" ["function", "way", "rows"] (spToldA K) := by
  obtain ⟨C, CH, hU, hHE, hkit⟩ := T.e_Unfit
  have D_statement_at := D_at (P := P) (w := w) (base := base) T hU
  obtain ⟨f, fd, S⟩ := T.d_l_is_told
  refine Df.mk' (k := 11) S sc_l_is_told (fun vs H Q E h => ?_) (fun cdv A outer s H vs Q E hgd hr h => ?_)
  · obtain ⟨p, l, G, ds, d, _, da, ⟨ss, fd, w, rfl, _⟩, _⟩ := h
    rw [da.length]
    rfl
  · obtain ⟨p, l, G, ds, d, W, da, ⟨ss, fd, y, rfl, hf, hs, hok, rfl⟩, kk⟩ := h
    obtain ⟨v, u, R, rfl, d1, d2, d3⟩ := da.three
    have big : (300000 : Nat) ≤ sizeLine := by decide
    have hc := hs.2.1
    refine ⟨_, (pss_cons (ps_setLc (X := (cxOf CX0 P w K mg base ["function", "way", "rows", "due", "own", "statement", "told", "error"] "_law_is_told" (defScope s_l_is_told) f cdv A outer s H E).nox) (i := 3) (own := [("own", 4), ("statement", 5)]) (g := gTup K 2 (gCons (gName 4) (gCons (gName 5) gNil))) (tt := tTest (tOp (rEqD K) (tVar 4) (tVar 1))) (te := tVar 5) rfl sc_l_is_told.nd rfl rfl (sw_true rfl rfl rfl (by decide +kernel)) (pi_list (pv 2)) (blkOk_by (own := [("own", 4), ("statement", 5)]) (N := ["function", "way", "rows", "due", "own", "statement", "told", "error"]) (sc := defScope s_l_is_told) (by decide +kernel)) (fun _ _ _ _ _ => pg_tup rfl (pgs_cons (pg_name (i := 4) sc_l_is_told.nd rfl (.inl rfl)) (pgs_cons (pg_name (i := 5) sc_l_is_told.nd rfl (.inl rfl)) pgs_nil))) (fun _ _ _ _ _ => (pts_one (pt_cmpR (op_eqD hr.units) (pv 4) (pv 1) (nomark _)))) (fun _ _ _ _ _ => (pv 5)))
      (pss_cons (ps_try_as (i := 7) (tb := fun W => tAsg (tCallS (spAt K C) (WE W) (tCons (tVar 0) (tCons (tVar 1) tNil))) (gName 6))
      (ts := fun a cls d D σ H => (cls = .ref C ∧ d = none) ∧ tRet (tAndV (tOp (rEqNilL K) (tVar 3) (tLst tNil)) (tCB (rIsE K C a) (tCons (tVar 7) (tCons (tC (.ref CH)) tNil)))) D σ H) (Wout := fun _ _ _ _ => False) rfl rfl sc_l_is_told.nd rfl rfl ⟨rfl, by decide, .inl hU.at_⟩ takes0
      (fun W pn xe tk _ => pss_one (ps_set (i := 6) sc_l_is_told.nd rfl (.inl rfl) (pe_dS D_statement_at hgd hr (fun σ => passAt tk σ) (pa_cons (pv 0) (pa_cons (pv 1) pa_nil)))))
      (fun a oe cls d pn hz hf => pss_if fun hcd => pss_one (ps_ret (pe_and (pe_cmpR (op_eqNilL hr.units) (pv 3) (pe_lst pa_nil) (nomark _)) (pe_one (pe_callB (call_isE hU.is_ (by rw [hcd.1, hcd.2] at hz; exact hz) hf) (by rfl) T.b_isinstance (by decide +kernel) (pa_cons (pv 7) (pa_cons (pe_glob (v := .ref CH) (by rfl) hHE rfl) pa_nil))))))))
      (pss_one (ps_ret (pe_and (pe_cmpR (op_neNilL hr.units) (pv 3) (pe_lst pa_nil) (nomark _)) (pe_one (pe_cmpR op_eq (pe_callB (call_repr hgd hr.units) (by rfl) T.b_repr (by decide +kernel) (pa_cons (pv 6) pa_nil)) (pe_callB (call_repr hgd hr.units) (by rfl) T.b_repr (by decide +kernel) (pa_cons (pe_ix ix_list (pv 3) pe_int (fun _ _ => rfl)) pa_nil)) (nomark _)))))))), ?_⟩
    refine TD.asg (K := K) (p := p) (l := l) (G := G) (φ := fun x => x = .list (dueW (wlL ss [] 0) y)) (due_lc d3 d2 (by rw [wlL_len]; omega)) W fun v3 dv3 G1 H1 e1 da3 f3 => ?_
    subst f3
    have hh := due_head (wlL ss [] 0) y
    have d11 := d1.mono e1.sub
    have d21 := d2.mono e1.sub
    dsimp only [gName, List.set]
    refine ⟨_, rfl, _, rfl, p, l, G1, ss, fd, y, e1.w, .cons d11 (.cons d21 .nil), hf, hs, fun hn G2 H2 e2 => ?_, fun d hd v6 G2 H2 e2 d6 => ?_⟩
    · rw [hn] at hh
      have hnil : dueW (wlL ss [] 0) y = [] := List.head?_eq_none_iff.mp hh
      refine ⟨true, hU.exm, fun _ a ha => ⟨⟨rfl, rfl⟩, ?_⟩, fun q => Bool.noConfusion q⟩
      have da5 := da3.mono e2.sub
      rw [hnil] at da5
      cases da5 with
      | @lst I3 xs _ t3 dx =>
        cases dx
        refine ⟨_, rfl, by decide, fun q hq => ⟨I3, q, [], rfl, rfl, SqL.of ((e2.w.tmp hq).w.same _ _ t3), SqL.of upd_same, true, rfl, ?_⟩⟩
        refine if_yes rfl ⟨_, rfl, V.ref CH, .ref CH, true, rfl, fun u r => r, hkit, ?_⟩
        exact kk (.bl true) G2 _ ((e1.trans W e2).trans W (e2.w.tmp hq)) (.bl true)
    · rw [hd] at hh
      obtain ⟨rest, hdue⟩ : ∃ rest, dueW (wlL ss [] 0) y = d :: rest := by
        cases e : dueW (wlL ss [] 0) y with
        | nil =>
          rw [e] at hh
          cases hh
        | cons z r =>
          rw [e] at hh
          cases hh
          exact ⟨r, rfl⟩
      have okd : Okd 60 16000000 d := by
        unfold findW at hd
        obtain ⟨r, hr, e⟩ := Option.map_eq_some_iff.mp hd
        rw [← e]
        exact hok r (List.mem_of_find?_eq_some hr)
      have da5 := da3.mono e2.sub
      rw [hdue] at da5
      have E2 := e1.trans W e2
      dsimp only [gName, List.set]
      have da6 := da5
      cases da5 with
      | @lst I3 xs _ t3 dx =>
        cases xs with
        | nil => cases dx
        | cons x0 xs =>
          refine ⟨_, rfl, by decide, fun q hq => ⟨I3, q, x0 :: xs, rfl, rfl, SqL.of ((e2.w.tmp hq).w.same _ _ t3), SqL.of upd_same, true, rfl, ?_⟩⟩
          have et := e2.w.tmp (o := .lst []) hq
          generalize upd H2 q (.lst []) = H3 at et ⊢
          refine if_yes rfl ?_
          refine (show TX K p l _ G2 _ (.bool (decide (d.shown = d.shown))) from tx_eqS (tx_repr (td_is rfl d6) okd) (tx_repr (tx_ixL (c := 0) (td_is rfl da6) rfl) okd)) G2 H3 _ et.w (Same.refl _) fun v7 d7 G4 H4 e4 da7 f7 => ?_
          rw [f7, decide_eq_true rfl] at da7
          exact kk v7 G4 H4 ((E2.trans W et).trans W e4) da7
end
end L2.Hx

/-! Ways near a way; statements to four deep. -/
namespace L2.Hx
open PySem PySem.Spec PyProof.Rows
def IsW (n : Nat) (d : PyData) : Prop := ∃ w, d = wayD w ∧ w.length ≤ n
def IsI (d : PyData) : Prop := ∃ z : Int, d = .int z
def spNear (K : PySem.W.Frag) : Sp := spG K (fun ds => ∃ w : List Int, ds = [wayD w] ∧ w ≠ [] ∧ w.length ≤ 100) (LsQ (IsW 300) 0 20)
def spFour (K : PySem.W.Frag) : Sp := spG K (fun ds => ds = []) (fun d => ∃ s, d = datS s ∧ OkS 4 s ∧ nS s ≤ 5)
section
variable {P : Program} {w : World} {K : PySem.W.Frag} {mg : Str → Option Value} {base : Heap} {p l : Addr} {σ : St} {G : Hp} {φ ψ : PyData → Prop} {t ta tb te : TE} {tt : TT} {tr : TA} {m : Nat}
theorem td_drawC {i : Nat} {c : Int} (hd : σ[i]? = some (some (.ref p))) (h0 : 1 ≤ c := by decide) (h1 : c < 1000 := by decide) : TD K p l σ G (tCall spDraw [] E0 (tCons (tVar i) (tCons (tC (.int c)) tNil))) (fun d => ∃ r : Int, d = .int r ∧ 0 ≤ r ∧ r < c) := fun G1 H Q W s k =>
  ⟨_, hd, p, l, G1, c, rfl, by omega, by omega, W, fun r H1 r0 r1 e => k _ _ _ _ e (.int r) ⟨r, rfl, r0, r1⟩⟩
theorem tx_ifI {i : Nat} {z c : Int} {d : PyData} (hi : σ[i]? = some (some (.int z))) (ha : z = c → TX K p l σ G ta d) (hb : z ≠ c → TX K p l σ G tb d) : TX K p l σ G (tIf (tTest (tOp rEq (tVar i) (tC (.int c)))) ta tb) d := fun G1 H Q W s k => by
  refine ⟨_, hi, rfl, _, rfl, ?_⟩
  rw [show decide (V.int z = V.int c) = decide (z = c) from decide_eq_decide.mpr ⟨fun h => vint h, fun h => by rw [h]⟩]
  by_cases h : z = c
  · rw [decide_eq_true h]
    exact ha h G1 H Q W s k
  · rw [decide_eq_false h]
    exact hb h G1 H Q W s k
def freeS : Sx := .sim "free" [.str "nil"]
theorem free_ok : SimOk "free" [.str "nil"] := by
  obtain ⟨w, ds, e, h⟩ := sim_ok (w := "free") (ds := [.str "nil"]) (by decide) (by decide) (by decide) ⟨by decide +kernel, Nat.zero_le _, by decide +kernel⟩ (by decide) fun x m => by
    rw [List.mem_singleton.mp m]
    exact ⟨by decide +kernel, Nat.zero_le _, by decide +kernel⟩
  cases e
  exact h
def anyT : PyData := .tuple [.str "any"]
def isT : PyData := .tuple [.str "is", .str "nil", .str "result"]
theorem anyT_ok : Okd 1 279 anyT := ⟨by decide +kernel, by decide +kernel, by decide +kernel⟩
theorem isT_ok : Okd 1 279 isT := ⟨by decide +kernel, by decide +kernel, by decide +kernel⟩
def setS : Sx := .sim "set" [.str "result", .str "nil"]
theorem set_ok : SimOk "set" [.str "result", .str "nil"] := by
  obtain ⟨w, ds, e, h⟩ := sim_ok (w := "set") (ds := [.str "result", .str "nil"]) (by decide) (by decide) (by decide) ⟨by decide +kernel, Nat.zero_le _, by decide +kernel⟩ (by decide) fun x m => by
    rcases List.mem_cons.mp m with rfl | m
    · exact ⟨by decide +kernel, Nat.zero_le _, by decide +kernel⟩
    · rw [List.mem_singleton.mp m]
      exact ⟨by decide +kernel, Nat.zero_le _, by decide +kernel⟩
  cases e
  exact h
theorem IsW.mono {n k : Nat} {d : PyData} (h : IsW n d) (hk : n ≤ k := by decide) : IsW k d := let ⟨w, e, l⟩ := h; ⟨w, e, Nat.le_trans l hk⟩
theorem Da.wayI {v : V} {w : List Int} (h : Da K G v (wayD w)) : ∃ a, v = .ref a ∧ SqT K G a (w.map V.int) := by
  obtain ⟨a, xs, rfl, sq, dx⟩ := h.tupI
  rw [da_ints dx] at sq
  exact ⟨a, rfl, sq⟩
theorem da_intsD : ∀ w : List Int, DaAll K G (w.map V.int) (w.map .int)
  | [] => .nil
  | x :: w => .cons (.int x) (da_intsD w)
theorem td_put {G1 H : Hp} {Q : VK} {w : List Int} {n : Nat} (W : Wd p l G1 H) (hl : w.length ≤ n) (k : ∀ v d G2 H2, Ext p l G1 H G2 H2 → Da K G2 v d → IsW n d → Q v H2) : ∀ q, H q = none → Q (.ref q) (upd H q (.tup (w.map V.int))) := fun q hq =>
  k _ _ _ _ (W.put hq) (.tup (SqT.of upd_same) (da_intsD w)) ⟨w, rfl, hl⟩
theorem td_wcat {n m : Nat} (ha : TD K p l σ G ta (IsW n)) (hb : TD K p l σ G tb (IsW m)) (hz : n + m ≤ sizeLine := by decide) : TD K p l σ G (tOp (rCatA K) ta tb) (IsW (n + m)) := fun G1 H Q W s k =>
  ha G1 H _ W s fun v d G2 H2 e da ⟨w, hd, lw⟩ => by
    subst hd
    refine hb G2 H2 _ e.w (s.trans e.sub) fun u d2 G3 H3 e3 da3 ⟨w2, hd2, lw2⟩ => ?_
    subst hd2
    obtain ⟨a, rfl, t1⟩ := da.wayI
    obtain ⟨b, rfl, t2⟩ := da3.wayI
    have E := e.trans W e3
    refine ⟨a, b, _, _, rfl, rfl, sameT (e3.sub.trans e3.w.same) t1, sameT e3.w.same t2, by rw [List.length_map, List.length_map]; omega, fun hx => ?_, fun hx hy => ?_, fun hx hy c hc => ?_⟩
    · exact k _ _ _ _ E da3 ⟨w2, rfl, by omega⟩
    · exact k _ _ _ _ E (da.mono e3.sub) ⟨w, rfl, by omega⟩
    · rw [← List.map_append]
      exact td_put (n := n + m) e3.w (by rw [List.length_append]; omega) (fun v d G4 H4 e4 dd f => k v d G4 H4 (E.trans W e4) dd f) c hc
theorem td_wsl {n : Nat} {tl th : TO} (ha : TD K p l σ G ta (IsW n)) (hl : TPt σ tl) (hh : TPt σ th) : TD K p l σ G (tSl (rSlA K) ta tl th) (IsW n) := fun G1 H Q W s k =>
  ha G1 H _ W s fun v d G2 H2 e da ⟨w, hd, lw⟩ => hl H2 _ fun lo => hh H2 _ fun hi => by
    subst hd
    obtain ⟨a, rfl, t1⟩ := da.wayI
    refine ⟨a, _, rfl, sameT e.w.same t1, fun _ => k _ _ _ _ e da ⟨w, rfl, lw⟩, fun _ c hc => ?_⟩
    unfold cutV
    rw [← List.map_drop, ← List.map_take]
    exact td_put (n := n) e.w (by rw [List.length_take, List.length_drop]; omega) (fun v d G4 H4 e4 dd f => k v d G4 H4 (e.trans W e4) dd f) c hc
theorem td_wrev {n : Nat} (ha : TD K p l σ G ta (IsW n)) : TD K p l σ G (tRevT K ta) (IsW n) := fun G1 H Q W s k =>
  ha G1 H _ W s fun v d G2 H2 e da ⟨w, hd, lw⟩ => by
    subst hd
    obtain ⟨a, rfl, t1⟩ := da.wayI
    refine ⟨a, _, rfl, sameT e.w.same t1, ?_⟩
    rw [← List.map_reverse]
    exact td_put (n := n) e.w (by rw [List.length_reverse]; exact lw) (fun v d G4 H4 e4 dd f => k v d G4 H4 (e.trans W e4) dd f)
theorem td_w0 : TD K p l σ G (tTup tNil) (IsW 0) := fun G1 H Q W s k => ⟨by decide, td_put (w := []) (n := 0) W (Nat.le_refl _) k⟩
theorem td_w1 {ti : TE} (hi : TD K p l σ G ti IsI) : TD K p l σ G (tTup (tCons ti tNil)) (IsW 1) := fun G1 H Q W s k =>
  hi G1 H _ W s fun v d G2 H2 e da ⟨z, hd⟩ => by
    subst hd
    cases da
    exact ⟨by show 1 ≤ sizeLine; decide, td_put (w := [z]) (n := 1) e.w (Nat.le_refl _) fun v d G4 H4 e4 dd f => k v d G4 H4 (e.trans W e4) dd f⟩
theorem td_w2 {i j : Int} : TD K p l σ G (tTup (tCons (tC (.int i)) (tCons (tC (.int j)) tNil))) (IsW 2) := fun G1 H Q W s k =>
  ⟨by show 2 ≤ sizeLine; decide, td_put (w := [i, j]) (n := 2) W (Nat.le_refl _) k⟩
theorem td_iC {i : Int} : TD K p l σ G (tC (.int i)) IsI := TD.flat (fun _ => .int i) ⟨i, rfl⟩
theorem td_iadd (ha : TD K p l σ G ta IsI) (hb : TD K p l σ G tb IsI) : TD K p l σ G (tOp (rI0 fun i j => .int (i + j)) ta tb) IsI := fun G1 H Q W s k =>
  ha G1 H _ W s fun v d G2 H2 e da ⟨z, hd⟩ => by
    subst hd
    refine hb G2 H2 _ e.w (s.trans e.sub) fun u d2 G3 H3 e3 da3 ⟨z2, hd2⟩ => ?_
    subst hd2
    cases da
    cases da3
    exact ⟨_, _, rfl, rfl, k _ _ _ _ (e.trans W e3) (.int _) ⟨_, rfl⟩⟩
theorem td_isub (ha : TD K p l σ G ta IsI) (hb : TD K p l σ G tb IsI) : TD K p l σ G (tOp (rI0 fun i j => .int (i - j)) ta tb) IsI := fun G1 H Q W s k =>
  ha G1 H _ W s fun v d G2 H2 e da ⟨z, hd⟩ => by
    subst hd
    refine hb G2 H2 _ e.w (s.trans e.sub) fun u d2 G3 H3 e3 da3 ⟨z2, hd2⟩ => ?_
    subst hd2
    cases da
    cases da3
    exact ⟨_, _, rfl, rfl, k _ _ _ _ (e.trans W e3) (.int _) ⟨_, rfl⟩⟩
theorem td_ineg {i : Int} : TD K p l σ G (tUn (rU fun i => .int (-i)) (tC (.int i))) IsI := fun G1 H Q W s k => ⟨_, rfl, k _ _ _ _ (Ext.refl W) (.int _) ⟨_, rfl⟩⟩
theorem tp_neg {i : Int} : TPt σ (tPart (tUn (rU fun i => .int (-i)) (tC (.int i)))) := fun H Q h => ⟨_, rfl, _, rfl, h _⟩
theorem td_wix {i : Nat} {ti : TE} {v : V} {y : List Int} {z : Int} (hi : σ[i]? = some (some v)) (hv : Da K G v (wayD y)) (ht : ∀ (H : Hp) (Q : VK), Q (.int z) H → ti σ H Q) (hz : (0 ≤ z ∧ z < y.length) ∨ (z = -1 ∧ y ≠ [])) : TD K p l σ G (tOp (rIxT K) (tVar i) ti) IsI := fun G1 H Q W s k => by
  obtain ⟨a, rfl, t1⟩ := (hv.mono s).wayI
  obtain ⟨j, hj, lj⟩ : ∃ j, ixN (y.map V.int).length z = some j ∧ j < y.length := by
    unfold ixN
    rw [List.length_map]
    rcases hz with ⟨h0, h1⟩ | ⟨rfl, h⟩
    · exact ⟨z.toNat, by rw [if_pos h0, if_pos h1], by omega⟩
    · have : 0 < y.length := List.length_pos_iff.mpr h
      exact ⟨y.length - 1, by rw [if_neg (by decide), if_pos (by omega)]; congr 1; omega, by omega⟩
  refine ⟨_, hi, ht _ _ ⟨a, _, z, .int y[j], rfl, rfl, sameT W.same t1, ?_, k _ _ _ _ (Ext.refl W) (.int _) ⟨_, rfl⟩⟩⟩
  unfold atI
  rw [hj]
  show (y.map V.int)[j]? = _
  rw [List.getElem?_map, List.getElem?_eq_getElem lj]
  rfl
theorem D_near (T : Txt K mg) : Df P w K mg base 2 "_law_near" ["stock", "way"] (spNear K) := by
  have D_l_draw := D_draw (P := P) (w := w) (base := base) T
  obtain ⟨f, fd, S⟩ := T.d_l_near
  refine Df.mk' (k := 1) S sc_l_near (fun vs H Q E h => ?_) (fun cdv A outer s H vs Q E hgd hr h => ?_)
  · obtain ⟨p, l, G, us, ds, rfl, _, da, ⟨w, rfl, _⟩, _⟩ := h
    rw [List.length_cons, da.length]
    rfl
  · obtain ⟨p, l, G, us, ds, rfl, W, da, ⟨y, rfl, hne, hl⟩, kk⟩ := h
    obtain ⟨v, rfl, d1⟩ := da.one
    refine ⟨_, (pss_cons (ps_set (i := 2) sc_l_near.nd rfl (.inl rfl) (pe_d D_l_draw hgd hr (pa_cons (pv 0) (pa_cons (pe_callB call_len_seq (by rfl) T.b_len (by decide +kernel) (pa_cons (pv 1) pa_nil)) pa_nil))))
      (pss_cons (ps_set (i := 3) sc_l_near.nd rfl (.inl rfl) (pe_lst (pa_cons (pe_op op_catA (pv 1) (pe_tup (pa_cons pe_int pa_nil))) (pa_cons (pe_slice sl_tupA (pv 1) po_none (po_some (pe_un un_neg pe_int))) (pa_cons (pe_op op_catA (pe_op op_catA (pe_slice sl_tupA (pv 1) po_none (po_some (pv 2))) (pe_tup (pa_cons (pe_op op_add (pe_ix ix_tup (pv 1) (pv 2) (fun _ _ => rfl)) pe_int) pa_nil))) (pe_slice sl_tupA (pv 1) (po_some (pe_op op_add (pv 2) pe_int)) po_none)) (pa_cons (pe_op op_catA (pv 1) (pe_tup (pa_cons pe_int (pa_cons pe_int pa_nil)))) (pa_cons (pe_op op_catA (pv 1) (pe_tup (pa_cons pe_int (pa_cons pe_int pa_nil)))) pa_nil)))))))
      (pss_cons (ps_set (i := 3) sc_l_near.nd rfl (.inl rfl) (pe_op op_cat (pv 3) (pe_lst (pa_cons (pe_op op_catA (pe_op op_catA (pe_slice sl_tupA (pv 1) po_none (po_some (pv 2))) (pe_tup (pa_cons (pe_un un_neg pe_int) pa_nil))) (pe_slice sl_tupA (pv 1) (po_some (pe_op op_add (pv 2) pe_int)) po_none)) (pa_cons (pe_op op_catA (pe_op op_catA (pe_slice sl_tupA (pv 1) po_none (po_some (pv 2))) (pe_tup (pa_cons pe_int pa_nil))) (pe_slice sl_tupA (pv 1) (po_some (pe_op op_add (pv 2) pe_int)) po_none)) (pa_cons (pe_tup pa_nil) (pa_cons (pe_revT (pv 1)) (pa_cons (pe_op op_catA (pe_tup (pa_cons pe_int pa_nil)) (pv 1)) pa_nil))))))))
      (pss_one (ps_ret (pe_op op_cat (pv 3) (pe_lst (pa_cons (pe_op op_catA (pe_op op_catA (pe_slice sl_tupA (pv 1) po_none (po_some (pv 2))) (pe_tup (pa_cons (pe_op op_pow pe_int pe_int) pa_nil))) (pe_slice sl_tupA (pv 1) (po_some (pe_op op_add (pv 2) pe_int)) po_none)) (pa_cons (pe_op op_catA (pv 1) (pv 1)) (pa_cons (pe_op op_catA (pe_slice sl_tupA (pv 1) po_none (po_some (pe_un un_neg pe_int))) (pe_tup (pa_cons (pe_op op_sub (pe_un un_neg pe_int) (pe_ix ix_tup (pv 1) (pe_un un_neg pe_int) (fun _ _ => rfl))) pa_nil))) pa_nil)))))))))), ?_⟩
    obtain ⟨B, rfl, sq⟩ := d1.wayI
    have ly : 0 < y.length := List.length_pos_iff.mpr hne
    refine ⟨_, rfl, _, rfl, B, _, rfl, .inr (sameT W.same sq), p, l, G, _, rfl, ?_, ?_, W, fun r H1 r0 r1 e1 => ?_⟩
    · rw [List.length_map]
      omega
    · rw [List.length_map]
      omega
    rw [List.length_map] at r1
    have d11 := d1
    dsimp only [gName, List.set]
    refine TD.asg (K := K) (p := p) (l := l) (G := G) (φ := LsQ (IsW 300) 5 5) (td_lstQ (φ := IsW 300) (tds_consF (TD.imp (td_wcat (td_var (φ := IsW 100) rfl d11 ⟨y, rfl, hl⟩) (td_w1 td_iC)) fun d h => h.mono) (tds_consF (TD.imp (td_wsl (td_var (φ := IsW 100) rfl d11 ⟨y, rfl, hl⟩) tp_none tp_neg) fun d h => h.mono) (tds_consF (TD.imp (td_wcat (td_wcat (td_wsl (td_var (φ := IsW 100) rfl d11 ⟨y, rfl, hl⟩) tp_none (tp_var rfl)) (td_w1 (td_iadd (td_wix rfl d11 (fun H Q h => ⟨_, rfl, h⟩) (.inl ⟨r0, by omega⟩)) td_iC))) (td_wsl (td_var (φ := IsW 100) rfl d11 ⟨y, rfl, hl⟩) (tp_add rfl) tp_none)) fun d h => h.mono) (tds_consF (TD.imp (td_wcat (td_var (φ := IsW 100) rfl d11 ⟨y, rfl, hl⟩) td_w2) fun d h => h.mono) (tds_consF (TD.imp (td_wcat (td_var (φ := IsW 100) rfl d11 ⟨y, rfl, hl⟩) td_w2) fun d h => h.mono) tds_nilF)))))) e1.w fun v3 x3 G3 H3 e3 dv3 f3 => ?_
    have E3 := e1.trans W e3
    have d12 := d1.mono e3.sub
    dsimp only [gName, List.set]
    refine TD.asg (K := K) (p := p) (l := l) (G := G3) (φ := LsQ (IsW 300) 10 10) (td_catQ (td_var (φ := LsQ (IsW 300) 5 5) rfl dv3 f3) (td_lstQ (φ := IsW 300) (tds_consF (TD.imp (td_wcat (td_wcat (td_wsl (td_var (φ := IsW 100) rfl d12 ⟨y, rfl, hl⟩) tp_none (tp_var rfl)) (td_w1 td_ineg)) (td_wsl (td_var (φ := IsW 100) rfl d12 ⟨y, rfl, hl⟩) (tp_add rfl) tp_none)) fun d h => h.mono) (tds_consF (TD.imp (td_wcat (td_wcat (td_wsl (td_var (φ := IsW 100) rfl d12 ⟨y, rfl, hl⟩) tp_none (tp_var rfl)) (td_w1 td_iC)) (td_wsl (td_var (φ := IsW 100) rfl d12 ⟨y, rfl, hl⟩) (tp_add rfl) tp_none)) fun d h => h.mono) (tds_consF (TD.imp td_w0 fun d h => h.mono) (tds_consF (TD.imp (td_wrev (td_var (φ := IsW 100) rfl d12 ⟨y, rfl, hl⟩)) fun d h => h.mono) (tds_consF (TD.imp (td_wcat (td_w1 td_iC) (td_var (φ := IsW 100) rfl d12 ⟨y, rfl, hl⟩)) fun d h => h.mono) tds_nilF))))))) E3.w fun v4 x4 G4 H4 e4 dv4 f4 => ?_
    have E4 := E3.trans W e4
    have d13 := d12.mono e4.sub
    dsimp only [gName, List.set]
    refine TD.ret (K := K) (p := p) (l := l) (G := G4) (φ := LsQ (IsW 300) 13 13) (td_catQ (td_var (φ := LsQ (IsW 300) 10 10) rfl dv4 f4) (td_lstQ (φ := IsW 300) (tds_consF (TD.imp (td_wcat (td_wcat (td_wsl (td_var (φ := IsW 100) rfl d13 ⟨y, rfl, hl⟩) tp_none (tp_var rfl)) (td_w1 (fun G1 H Q W s k => ⟨_, _, rfl, rfl, ⟨by decide, by decide, by decide⟩, k _ _ _ _ (Ext.refl W) (.int _) ⟨_, rfl⟩⟩))) (td_wsl (td_var (φ := IsW 100) rfl d13 ⟨y, rfl, hl⟩) (tp_add rfl) tp_none)) fun d h => h.mono) (tds_consF (TD.imp (td_wcat (td_var (φ := IsW 100) rfl d13 ⟨y, rfl, hl⟩) (td_var (φ := IsW 100) rfl d13 ⟨y, rfl, hl⟩)) fun d h => h.mono) (tds_consF (TD.imp (td_wcat (td_wsl (td_var (φ := IsW 100) rfl d13 ⟨y, rfl, hl⟩) tp_none tp_neg) (td_w1 (td_isub td_ineg (td_wix rfl d13 (fun H Q h => ⟨_, rfl, h⟩) (.inr ⟨rfl, hne⟩))))) fun d h => h.mono) tds_nilF))))) E4.w fun v e G' H' x da f => kk v e G' H' (E4.trans W x) da (f.imp fun x h => h)
theorem D_four (T : Txt K mg) : Df P w K mg base 2 "_law_within_four" ["stock"] (spFour K) := by
  have D_l_draw := D_draw (P := P) (w := w) (base := base) T
  obtain ⟨f, fd, S⟩ := T.d_l_within_four
  refine Df.mk' (k := 1) S sc_l_within_four (fun vs H Q E h => ?_) (fun cdv A outer s H vs Q E hgd hr h => ?_)
  · obtain ⟨p, l, G, us, ds, rfl, _, da, rfl, _⟩ := h
    rw [List.length_cons, da.length]
    rfl
  · obtain ⟨p, l, G, us, ds, rfl, W, da, rfl, kk⟩ := h
    cases da
    refine ⟨_, (pss_cons (ps_set (i := 1) sc_l_within_four.nd rfl (.inl rfl) (pe_tup (pa_cons pe_str (pa_cons pe_str (pa_cons pe_str pa_nil)))))
      (pss_cons (ps_for PassesOwn.never rfl (pi_range1 rfl T.b_range (pa_cons pe_int pa_nil)) (pg_name (i := 2) sc_l_within_four.nd rfl (.inl rfl))
      (pss_cons (ps_set (i := 3) sc_l_within_four.nd rfl (.inl rfl) (pe_d D_l_draw hgd hr (pa_cons (pv 0) (pa_cons pe_int pa_nil))))
      (pss_one (ps_if (pt_cmpR op_eq (pv 3) pe_int (nomark _)) (pss_one (ps_set (i := 1) sc_l_within_four.nd rfl (.inl rfl) (pe_tup (pa_cons pe_str (pa_cons (pe_tup (pa_cons pe_str pa_nil)) (pa_cons pe_non (pa_cons (pe_tup (pa_cons (pv 1) pa_nil)) pa_nil))))))) (pss_one (ps_set (i := 1) sc_l_within_four.nd rfl (.inl rfl) (pe_tup (pa_cons pe_str (pa_cons (pe_tup (pa_cons pe_str pa_nil)) (pa_cons (pe_ifExp (pt_cmpR op_eq (pv 3) pe_int (nomark _)) (pe_tup (pa_cons (pv 1) pa_nil)) (pe_tup pa_nil)) (pa_cons (pe_ifExp (pt_cmpR op_eq (pv 3) pe_int (nomark _)) (pe_tup (pa_cons (pv 1) pa_nil)) (pe_tup pa_nil)) pa_nil)))))))))))
      (pss_one (ps_ret (pv 1))))), ?_⟩
    refine TD.asg (K := K) (p := p) (l := l) (G := G) (φ := fun x => x = datS setS) (by rw [setS, datS]; exact tx_tup (tx_cons tx_str (tx_cons tx_str (tx_cons tx_str tx_nil)))) W fun v1 x1 G1 H1 e1 dv1 f1 => ?_
    subst f1
    dsimp only [gName, List.set]
    refine ⟨4, rfl, by decide, by decide, for_range (lo := 0) (n := 4) (fun j σ H2 => ∃ (v : V) (o2 o3 : Option V) (G2 : Hp) (s : Sx), σ = [some (.ref p), some v, o2, o3] ∧ Ext p l G H G2 H2 ∧ Da K G2 v (datS s) ∧ OkS j s ∧ nS s ≤ j + 1) ⟨v1, _, _, G1, setS, rfl, e1, dv1, ⟨_, _, rfl, set_ok⟩, by rw [setS, nS]; decide⟩ ?_ ?_⟩
    · rintro j σ H2 hj ⟨v, o2, o3, G2, s, rfl, e2, dv, hs, hn⟩
      dsimp only [gName, List.set]
      refine TD.asg (K := K) (p := p) (l := l) (G := G2) (td_drawC (c := 3) rfl) e2.w fun wv dw G3 H3 e3 dwv ⟨r, hr, r0, r1⟩ => ?_
      subst hr
      cases dwv
      have E3 := e2.trans W e3
      have dv3 := dv.mono e3.sub
      dsimp only [gName, List.set]
      have one : ∀ {σ' : St}, σ'[1]? = some (some v) → TX K p l σ' G3 (tTup (tCons (tVar 1) tNil)) (.tuple (datL [s])) := fun h1 => by
        rw [datL, datL]
        exact tx_tup (tx_cons (td_is h1 dv3) tx_nil) (by show 1 ≤ sizeLine; decide)
      refine ⟨_, rfl, rfl, _, rfl, ?_⟩
      rw [show decide (V.int r = V.int 0) = decide (r = 0) from decide_eq_decide.mpr ⟨fun h => vint h, fun h => by rw [h]⟩]
      refine iteB (fun h0 => ?_) (fun h0 => ?_)
      · refine TD.asg (K := K) (p := p) (l := l) (G := G3) (φ := fun x => x = datS (.whl anyT .none [s])) (by rw [datS]; exact tx_tup (tx_cons tx_str (tx_cons (tx_tup (tx_cons tx_str tx_nil)) (tx_cons tx_non (tx_cons (one rfl) tx_nil)))) (by show 4 ≤ sizeLine; decide)) E3.w fun v5 d5 G5 H5 e5 dv5 hd5 => ?_
        subst hd5
        exact ⟨v5, _, _, G5, _, rfl, E3.trans W e5, dv5, .inr (.inr ⟨_, _, _, rfl, anyT_ok, ⟨by decide +kernel, by decide +kernel, by decide +kernel⟩, by show 1 ≤ 2; decide, fun x m => by rw [List.mem_singleton.mp m]; exact hs⟩), by rw [nS, nL, nL]; omega⟩
      · obtain ⟨aa, haa, ha1, ha2, bb, hbb, hb1, hb2, hab⟩ : ∃ aa : List Sx, aa = (if r = 1 then [s] else []) ∧ aa.length ≤ 2 ∧ (∀ x ∈ aa, OkS j x) ∧ ∃ bb : List Sx, bb = (if r = 2 then [s] else []) ∧ bb.length ≤ 2 ∧ (∀ x ∈ bb, OkS j x) ∧ nL aa + nL bb ≤ j + 1 := by
          have sg : ∀ x ∈ [s], OkS j x := fun x m => by rw [List.mem_singleton.mp m]; exact hs
          have no : ∀ x ∈ ([] : List Sx), OkS j x := fun x m => absurd m List.not_mem_nil
          by_cases h1 : r = 1
          · have h2 : r ≠ 2 := by omega
            exact ⟨[s], (if_pos h1).symm, by show 1 ≤ 2; decide, sg, [], (if_neg h2).symm, by show 0 ≤ 2; decide, no, by simp only [nL]; omega⟩
          · by_cases h2 : r = 2
            · exact ⟨[], (if_neg h1).symm, by show 0 ≤ 2; decide, no, [s], (if_pos h2).symm, by show 1 ≤ 2; decide, sg, by rw [nL, nL, nL]; omega⟩
            · exact ⟨[], (if_neg h1).symm, by show 0 ≤ 2; decide, no, [], (if_neg h2).symm, by show 0 ≤ 2; decide, no, by rw [nL]; omega⟩
        have br : ∀ {σ' : St} (c : Int) (cc : List Sx), σ'[1]? = some (some v) → σ'[3]? = some (some (.int r)) → cc = (if r = c then [s] else []) → TX K p l σ' G3 (tIf (tTest (tOp rEq (tVar 3) (tC (.int c)))) (tTup (tCons (tVar 1) tNil)) (tTup tNil)) (.tuple (datL cc)) := fun c cc h1 h3 hc =>
          tx_ifI (z := r) h3 (fun e => by rw [hc, if_pos e]; exact one h1) (fun e => by rw [hc, if_neg e, datL]; exact tx_tup tx_nil)
        refine TD.asg (K := K) (p := p) (l := l) (G := G3) (φ := fun x => x = datS (.ite anyT aa bb)) (by rw [datS]; exact tx_tup (tx_cons tx_str (tx_cons (tx_tup (tx_cons tx_str tx_nil)) (tx_cons (br 1 aa rfl rfl haa) (tx_cons (br 2 bb rfl rfl hbb) tx_nil)))) (by show 4 ≤ sizeLine; decide)) E3.w fun v5 d5 G5 H5 e5 dv5 hd5 => ?_
        subst hd5
        exact ⟨v5, _, _, G5, _, rfl, E3.trans W e5, dv5, .inr (.inl ⟨_, _, _, rfl, anyT_ok, ha1, hb1, ha2, hb2⟩), by rw [nS]; omega⟩
    · rintro σ H2 ⟨v, o2, o3, G2, s, rfl, e2, dv, hs, hn⟩
      exact ⟨_, rfl, kk v _ G2 H2 e2 dv ⟨s, rfl, hs, hn⟩⟩
end
end L2.Hx

/-! What the law of names and ways wants. -/
namespace L2.Hx
open PySem PySem.Spec PyProof.Rows
theorem body_ok {n m N : Nat} {ss : List Sx} (hs : ∀ s ∈ ss, OkS n s) (hm : ss.length ≤ m) (hN : (sizN n + 2) * m + 3 ≤ N) : Okd (2 * n + 5) N (.tuple (datL ss)) := by
  rw [datL_map]
  refine Okd.tup (k := 2 * n + 4) (n := sizN n) (m := m) (fun d md => ?_) (by rw [List.length_map]; exact hm) hN
  obtain ⟨x, mx, rfl⟩ := List.mem_map.mp md
  exact okS_okd n x (hs x mx)
theorem few_ok {a : List PyData} (h : Few a) : Okd 19 739 (.tuple a) := Okd.mono (k := 1) (n := 739) (Okd.tup (k := 0) (n := 90) (m := 8) h.2 h.1)
theorem fn_ok {z : Str} {a b c : List PyData} {h f y : PyData} (hz : Tm (.str z)) (ha : Few a) (hb : Few b) (hc : Few c) (hh : Okd 4 2281 h) (hf : Okd 4 2281 f) (hy : Okd 19 15000000 y) : Okd 60 16000000 (.tuple [.str z, .tuple a, .tuple b, .tuple c, h, f, y]) :=
  Okd.mono (k := 20) (n := 15100000) (OkT.tup (k := 19) (n := 15050000) (OkT.cons (a := 90) (b := 15040000) (hz.mono) (OkT.cons (a := 739) (b := 15030000) (few_ok ha) (OkT.cons (a := 739) (b := 15025000) (few_ok hb) (OkT.cons (a := 739) (b := 15020000) (few_ok hc)
    (OkT.cons (a := 2281) (b := 15010000) (hh.mono) (OkT.cons (a := 2281) (b := 15005000) (hf.mono) (OkT.cons (a := 15000000) (b := 0) hy .nil))))))))
/-- bodies as the law draws them -/
def Gd (ss : List Sx) : Prop := (∀ s ∈ ss, OkS 4 s) ∧ ss.length ≤ 40 ∧ nL ss ≤ 515 ∧ Okd 19 15000000 (.tuple (datL ss))
theorem Gd.wk {ss : List Sx} (h : Gd ss) : WkOk 4 ss [] := ⟨h.1, by have := h.2.2.1; omega, by decide, h.2.1⟩
theorem okd_wint {i : Int} (h0 : 0 ≤ i) (h1 : i ≤ 100000) {k : Nat} : Okd k 1921 (.int i) := by
  refine ⟨decide_eq_true ?_, Nat.zero_le _, Nat.le_refl _⟩
  have : i.natAbs.log2 < 20 := by
    by_cases z : i.natAbs = 0
    · rw [z]
      decide
    · exact (Nat.log2_lt z).mpr (by omega)
  omega
theorem Gd.rows {ss : List Sx} (h : Gd ss) : ∀ r ∈ wlL ss [] 0, WrOk 4 9 r := (wl_ok 4).2 ss [] 0 9 h.1 (fun c m => absurd m List.not_mem_nil) (by decide) (by have := h.2.1; omega)
theorem Gd.own {ss : List Sx} (h : Gd ss) : ∀ r ∈ wlL ss [] 0, Okd 60 16000000 r.2 := fun r m => by
  obtain ⟨⟨s, hs, e⟩, _⟩ := h.rows r m
  rw [e]
  exact (okS_okd 4 s hs).mono
theorem str_ok {zs : List Str} (hz : ∀ z ∈ zs, Tm (.str z)) (hl : zs.length ≤ 24) : Okd 3 20000 (namesD zs) := by
  refine Okd.mono (k := 1) (n := 92 * 25 + 3) (Okd.tup (k := 0) (n := 90) (m := 25) (fun d m => ?_) ?_)
  · obtain ⟨z, mz, rfl⟩ := List.mem_map.mp m
    have mz := (List.mergeSort_perm _ _).mem_iff.mp mz
    rcases List.mem_append.mp mz with mz | mz
    · exact hz z mz
    · rw [List.mem_singleton.mp mz]
      exact ⟨by decide +kernel, Nat.zero_le _, by decide +kernel⟩
  · rw [List.length_map, sortS, (List.mergeSort_perm _ _).length_eq, List.length_append]
    show _ + 1 ≤ 25
    omega
theorem ways_ok {ss : List Sx} (h : Gd ss) : Okd 3 9000000 (waysD ss) := by
  refine Okd.mono (k := 2) (n := 17312 * 515 + 3) (Okd.tup (k := 1) (n := 17310) (m := 515) (fun d m => ?_) (by rw [List.length_map, wlL_len]; exact h.2.2.1))
  obtain ⟨r, mr, rfl⟩ := List.mem_map.mp m
  obtain ⟨_, hw, hl, _⟩ := h.rows r mr
  refine Okd.tup (k := 0) (n := 1921) (m := 9) (fun e me => ?_) (by rw [List.length_map]; exact hl)
  obtain ⟨c, mc, rfl⟩ := List.mem_map.mp me
  exact okd_wint (hw c mc).1 (hw c mc).2
def dueD2 (zs : List Str) (ss : List Sx) : PyData := .list [namesD zs, waysD ss]
theorem due_ok {zs : List Str} {ss : List Sx} (hz : ∀ z ∈ zs, Tm (.str z)) (hl : zs.length ≤ 24) (h : Gd ss) : Okd 60 16000000 (dueD2 zs ss) := by
  have t : Okd 4 16000000 (.tuple [namesD zs, waysD ss]) := OkT.tup (k := 3) (n := 9100000) (OkT.cons (a := 20000) (b := 9000100) (str_ok hz hl) (OkT.cons (a := 9000000) (b := 0) (ways_ok h) .nil))
  exact ⟨t.ok, Nat.le_trans t.dp (show 4 ≤ 60 by decide), t.sz⟩
/-- each row is found by its way -/
theorem find_mem : ∀ {rs : List Wr}, (rs.Pairwise fun a b => a.1 < b.1) → ∀ r ∈ rs, findW rs r.1 = some r.2
  | q :: rs, h, r, m => by
    obtain ⟨h1, h2⟩ := List.pairwise_cons.mp h
    unfold findW
    rw [List.find?_cons]
    rcases List.mem_cons.mp m with rfl | m
    · simp
    · have ne : q.1 ≠ r.1 := fun e => by
        have := h1 r m
        rw [e] at this
        exact List.lt_irrefl _ this
      rw [decide_eq_false ne]
      exact find_mem h2 r m
def consW (b : Int × List Int) : List Int := b.1 :: b.2
theorem ways_cons : ∀ {rs : List Wr}, (∀ r ∈ rs, r.1 ≠ []) → ∃ bs : List (Int × List Int), rs.map (·.1) = bs.map consW
  | [], _ => ⟨[], rfl⟩
  | r :: rs, h => by
    obtain ⟨bs, e⟩ := ways_cons fun q m => h q (List.mem_cons_of_mem _ m)
    obtain ⟨⟨w, d⟩, hr⟩ : ∃ z, r = z := ⟨r, rfl⟩
    cases w with
    | nil => exact absurd (by rw [hr]) (h r List.mem_cons_self)
    | cons c t => exact ⟨(c, t) :: bs, by rw [List.map_cons, List.map_cons, e, hr]; rfl⟩
theorem ways_sortedB {bs : List (Int × List Int)} (h : (bs.map consW).Pairwise (· < ·)) : bs.mergeSort (PySem.W.dataLe false fun b => wayD (consW b)) = bs := by
  refine List.mergeSort_of_pairwise ((List.pairwise_map.mp h).imp fun {a b} hab => ?_)
  show (!PySem.W.dataLt (wayD (consW b)) (wayD (consW a))) = true
  rw [wayD, wayD, PySem.W.dataLt_tuple]
  have e := PySem.W.dataLt_ints (consW b) (consW a)
  unfold PySem.W.rowLt at e
  rw [e, decide_eq_false (fun h2 => List.lt_irrefl _ (List.lt_trans hab h2))]
  rfl
theorem lay_ways : ∀ ws : List (List Int), PyData.canLayAll0 (ws.map wayD) = true ∧ PyData.depthAll (ws.map wayD) ≤ 10
  | [] => ⟨rfl, by simp [PyData.depthAll]⟩
  | w :: ws => by
    obtain ⟨a, b⟩ := lay_ways ws
    obtain ⟨c, d⟩ := way_shp w
    have e : (wayD w).depth ≤ 10 := by
      rw [wayD, PyData.depth, PySem.W.depth_ints]
      decide
    rw [List.map_cons]
    refine ⟨by rw [PyData.canLayAll0, c, a]; rfl, ?_⟩
    rw [PyData.depthAll]
    omega
theorem ways_shp (ws : List (List Int)) : Shp (.list (ws.map wayD)) := by
  obtain ⟨a, b⟩ := lay_ways ws
  refine ⟨by simpa [PyData.canLay0] using a, ?_⟩
  rw [PyData.depth]
  omega
section
variable {P : Program} {w : World} {K : PySem.W.Frag} {mg : Str → Option Value} {base : Heap} {p l : Addr} {σ : St} {G : Hp} {φ ψ : PyData → Prop} {t ta tb te : TE} {tt : TT} {tr : TA} {m : Nat}
theorem tx_listOfT {ds : List PyData} (ha : TX K p l σ G ta (.tuple ds)) : TX K p l σ G (tCB (rLstOf K) (tCons ta tNil)) (.list ds) := fun G1 H Q W s k =>
  ha G1 H _ W s fun v d G2 H2 e da f => by
    subst f
    obtain ⟨a, xs, rfl, sq, dx⟩ := da.tupI
    refine ⟨a, xs, rfl, .inr (sameT e.w.same sq), fun q hq => ?_⟩
    have e4 := e.w.put (o := .lst xs) hq
    exact k _ _ _ _ (e.trans W e4) (.lst upd_same (dx.mono e4.sub)) rfl
theorem paired_da {R : V → Int × List Int → Prop} (hR : ∀ x b, Da K G x (wayD (consW b)) → R x b) : ∀ {xs : List V} {bs : List (Int × List Int)}, DaAll K G xs (bs.map fun b => wayD (consW b)) → Paired R xs bs
  | _, [], .nil => .nil
  | _, b :: bs, .cons h t => .cons (hR _ b h) (paired_da hR t)
theorem da_paired : ∀ {xs : List V} {bs : List (Int × List Int)}, Paired (fun x b => Da K G x (wayD (consW b))) xs bs → DaAll K G xs (bs.map fun b => wayD (consW b))
  | _, _, .nil => .nil
  | _, _, .cons h t => .cons h (da_paired t)
theorem tx_sortW {bs : List (Int × List Int)} (hs : (bs.map consW).Pairwise (· < ·)) (ha : TX K p l σ G ta (.tuple (bs.map fun b => wayD (consW b)))) : TX K p l σ G (tCB (rSortedTW K) (tCons ta tNil)) (.list (bs.map fun b => wayD (consW b))) := fun G1 H Q W s k =>
  ha G1 H _ W s fun v d G2 H2 e da f => by
    subst f
    obtain ⟨a, xs, rfl, sq, dx⟩ := da.tupI
    refine ⟨a, xs, Int × List Int, bs, fun b => wayD (consW b), fun x b => Da K G2 x (wayD (consW b)), rfl, sameT e.w.same sq, fun x mx => ?_, paired_da (fun _ _ h => h) dx, paired_da (fun x b h => h.dp e.w.same (way_shp _).1) dx, fun b b' => ?_, fun b => ⟨_, _, rfl⟩, fun b _ => ?_, fun ys q _ py hq => ?_⟩
    · obtain ⟨d, md, dd⟩ := dx.mem mx
      obtain ⟨b, _, rfl⟩ := List.mem_map.mp md
      obtain ⟨a, rfl, _⟩ := dd.wayI
      exact ⟨a, rfl⟩
    · show PySem.W.alike (.tuple ((consW b).map .int)) (.tuple ((consW b').map .int)) = true
      rw [PySem.W.alike]
      exact PySem.W.alike_ints _ _
    · have := (way_shp (consW b)).2
      show (wayD (consW b)).depth ≤ 60
      omega
    · rw [ways_sortedB hs] at py
      have e4 := e.w.put (o := .lst ys) hq
      exact k _ _ _ _ (e.trans W e4) (.lst upd_same ((da_paired py).mono e4.sub)) rfl
theorem tt_neD {d : PyData} (hd : Shp d) (he : PyData.eqv d d = true) (ha : TX K p l σ G ta d) (hb : TX K p l σ G tb d) : ∀ (G1 H : Hp) (Q : Bool → Hp → Prop), Wd p l G1 H → Same G G1 → (∀ G2 H2, Ext p l G1 H G2 H2 → Q false H2) → tTest (tOp (rNeD K) ta tb) σ H Q := fun G1 H Q W s k =>
  ha G1 H _ W s fun v d1 G2 H2 e da f => hb G2 H2 _ e.w (s.trans e.sub) fun u d2 G3 H3 e3 da3 f3 => by
    subst f f3
    refine ⟨d2, d2, (da.mono e3.sub).dp e3.w.same hd.1, da3.dp e3.w.same hd.1, shp_shaped hd, shp_shaped hd, _, rfl, ?_⟩
    rw [he]
    exact k _ _ (e.trans W e3)
theorem eqv_self {d : PyData} (h : Shp d) : PyData.eqv d d = true := SeqAt.eqv_refl d h.1
theorem tx_takeL {as : List PyData} (n : Nat) (ha : TX K p l σ G ta (.list as)) : TX K p l σ G (tSl (rSlL K) ta tNoPart (tPart (tC (.int (n : Int))))) (.list (as.take n)) := fun G1 H Q W s k =>
  ha G1 H _ W s fun v d G2 H2 e da f => by
    subst f
    cases da with
    | @lst a xs _ t1 a1 =>
      refine ⟨_, rfl, a, xs, rfl, SqL.of (e.w.same _ _ t1), fun c hc => ?_⟩
      rw [cut_take]
      have e4 := e.w.put (o := .lst (xs.take n)) hc
      exact k _ _ _ _ (e.trans W e4) (.lst upd_same ((a1.take n).mono e4.sub)) rfl
theorem ts_told {A B : TS} {D : Ends} {H : Hp} (h : TX K p l σ G ta (.bool true)) (W : Wd p l G H) (k : ∀ G2 H2, Ext p l G H G2 H2 → B D σ H2) : tIfS (tNot (tB ta)) A B D σ H :=
  h G H _ W (Same.refl _) fun v d G2 H2 e da f => by
    subst f
    cases da
    exact ⟨true, rfl, if_no rfl (k G2 H2 e)⟩
theorem tx_kw2 {R : List PyData → PyData → Prop} {a b d : PyData} (ha : TX K p l σ G ta a) (hb : TX K p l σ G tb b) (hR : R [b, a] d) : TX K p l σ G (tKw (spF K R) swap2 2 E0 (tCons ta (tCons tb tNil))) d := fun G1 H Q W s k =>
  ha G1 H _ W s fun v d1 G2 H2 e da f => hb G2 H2 _ e.w (s.trans e.sub) fun u d2 G3 H3 e3 da3 f3 => by
    subst f f3
    exact ⟨rfl, p, l, G3, _, d, e3.w, .cons da3 (.cons (da.mono e3.sub) .nil), hR, fun v G4 H4 e4 dd => k v d G4 H4 ((e.trans W e3).trans W e4) dd rfl⟩
end
end L2.Hx

/-! The law of names and ways. -/
namespace L2.Hx
open PySem PySem.Spec PyProof.Rows
def spLaw (K : PySem.W.Frag) : Sp := fun vs H Q _ => ∃ (a : Addr) (ns : List Int), vs = [.ref a] ∧ SqL K H a (ns.map V.int) ∧ ns.length ≤ 63 ∧ ∀ H', Q (.bl true) H'
def fn7 (z : Str) (a b c : List PyData) (h f : PyData) (ss : List Sx) : PyData := .tuple [.str z, .tuple a, .tuple b, .tuple c, h, f, .tuple (datL ss)]
def PkW (d : PyData) : Prop := ∃ (w : List Int) (x : PyData), d = .tuple [wayD w, x] ∧ w ≠ [] ∧ w.length ≤ 100
section
variable {P : Program} {w : World} {K : PySem.W.Frag} {mg : Str → Option Value} {base : Heap} {p l : Addr} {σ : St} {G : Hp} {φ ψ : PyData → Prop} {t ta tb te : TE} {tt : TT} {tr : TA} {m : Nat}
theorem shp_fij {z : Str} {i j : Int} (hz : (PyData.str z).canLay0 = true) : Shp (.tuple [.str z, .int i, .int j]) := by
  refine ⟨?_, by simp [PyData.depth, PyData.depthAll]⟩
  simp only [PyData.canLay0] at hz ⊢
  simp only [PyData.canLayAll0, PyData.canLay0, hz, Bool.and_true]
theorem tx_callQ {R : List PyData → PyData → Prop} {Φ : List PyData → Prop} {d : PyData} (h : TDs K p l σ G tr Φ) (hR : ∀ ds, Φ ds → R ds d) : TX K p l σ G (tCall (spF K R) [] E0 tr) d := fun G1 H Q W s k =>
  h G1 H _ W s fun vs ds' G2 H2 e da f => ⟨p, l, G2, ds', d, e.w, by rw [List.append_nil]; exact da, hR _ f, fun v G3 H3 e3 dd => k v d G3 H3 (e.trans W e3) dd rfl⟩
theorem td_catAQ {φ : List PyData → Prop} {bs : List PyData} (ha : TD K p l σ G ta (fun d => ∃ as, d = .tuple as ∧ φ as)) (hb : TX K p l σ G tb (.tuple bs)) (hz : ∀ as, φ as → as.length + bs.length ≤ sizeLine) : TD K p l σ G (tOp (rCatA K) ta tb) (fun d => ∃ as, d = .tuple (as ++ bs) ∧ φ as) := fun G1 H Q W s k =>
  ha G1 H _ W s fun v d G2 H2 e da ⟨as, hd, hf⟩ => by
    subst hd
    refine hb G2 H2 _ e.w (s.trans e.sub) fun u d2 G3 H3 e3 da3 f3 => ?_
    subst f3
    have hz := hz as hf
    obtain ⟨a, xs, rfl, t1, a1⟩ := da.tupI
    obtain ⟨b, ys, rfl, t2, a2⟩ := da3.tupI
    have E := e.trans W e3
    refine ⟨a, b, xs, ys, rfl, rfl, sameT (e3.sub.trans e3.w.same) t1, sameT e3.w.same t2, by rw [a1.length, a2.length]; omega, fun hx => ?_, fun hx hy => ?_, fun hx hy c hc => ?_⟩
    · subst hx
      cases a1
      exact k _ _ _ _ E da3 ⟨[], rfl, hf⟩
    · subst hy
      cases a2
      exact k _ _ _ _ E (da.mono e3.sub) ⟨as, by rw [List.append_nil], hf⟩
    · have e4 := e3.w.put (o := .tup (xs ++ ys)) hc
      exact k _ _ _ _ (E.trans W e4) (.tup (SqT.of upd_same) ((a1.mono (e3.sub.trans e4.sub)).append (a2.mono e4.sub))) ⟨as, rfl, hf⟩
theorem td_catAR {φ : List PyData → Prop} {as : List PyData} (ha : TX K p l σ G ta (.tuple as)) (hb : TD K p l σ G tb (fun d => ∃ bs, d = .tuple bs ∧ φ bs)) (hz : ∀ bs, φ bs → as.length + bs.length ≤ sizeLine) : TD K p l σ G (tOp (rCatA K) ta tb) (fun d => ∃ bs, d = .tuple (as ++ bs) ∧ φ bs) := fun G1 H Q W s k =>
  ha G1 H _ W s fun v d G2 H2 e da hd => by
    subst hd
    refine hb G2 H2 _ e.w (s.trans e.sub) fun u d2 G3 H3 e3 da3 ⟨bs, hd2, hf⟩ => ?_
    subst hd2
    have hz := hz bs hf
    obtain ⟨a, xs, rfl, t1, a1⟩ := da.tupI
    obtain ⟨b, ys, rfl, t2, a2⟩ := da3.tupI
    have E := e.trans W e3
    refine ⟨a, b, xs, ys, rfl, rfl, sameT (e3.sub.trans e3.w.same) t1, sameT e3.w.same t2, by rw [a1.length, a2.length]; omega, fun hx => ?_, fun hx hy => ?_, fun hx hy c hc => ?_⟩
    · subst hx
      cases a1
      exact k _ _ _ _ E da3 ⟨bs, rfl, hf⟩
    · subst hy
      cases a2
      exact k _ _ _ _ E (da.mono e3.sub) ⟨[], by rw [List.append_nil], hf⟩
    · have e4 := e3.w.put (o := .tup (xs ++ ys)) hc
      exact k _ _ _ _ (E.trans W e4) (.tup (SqT.of upd_same) ((a1.mono (e3.sub.trans e4.sub)).append (a2.mono e4.sub))) ⟨bs, rfl, hf⟩
theorem td_ixP (ha : TD K p l σ G ta PkW) : TD K p l σ G (tOp (rIxT K) ta (tC (.int 0))) (fun d => ∃ w : List Int, d = wayD w ∧ w ≠ [] ∧ w.length ≤ 100) := fun G1 H Q W s k =>
  ha G1 H _ W s fun v d G2 H2 e da ⟨w, x, hd, h1, h2⟩ => by
    subst hd
    obtain ⟨a, xs, rfl, sq, dx⟩ := da.tupI
    obtain ⟨y0, y1, rfl, q0, q1⟩ := dx.two
    exact ⟨a, _, 0, y0, rfl, rfl, sameT e.w.same sq, rfl, k _ _ _ _ e q0 ⟨w, rfl, h1, h2⟩⟩
theorem D_law (T : Txt K mg) : DfS P w K mg base 14 "law" s_law ["script"] (spLaw K) := by
  obtain ⟨C, CH, hU, hHE, hkit⟩ := T.e_Unfit
  have D_l_draw := D_draw (P := P) (w := w) (base := base) T
  have D_l_pick := D_pick (P := P) (w := w) (base := base) T
  have D_l_stock := D_stock (P := P) (w := w) (base := base) T
  have D_l_shape := D_l_shape (P := P) (w := w) (base := base) T
  have D_l_simple := D_l_simple (P := P) (w := w) (base := base) T
  have D_l_function := D_fun (P := P) (w := w) (base := base) T 6
  have D_l_within_four := D_four (P := P) (w := w) (base := base) T
  have D_l_all_ways := D_lallN (P := P) (w := w) (base := base) T 4
  have D_names_of := (DS_names (P := P) (w := w) (base := base) T).df
  have D_ways_of := (DS_ways (P := P) (w := w) (base := base) T).df
  have DK_names_of := (DS_names (P := P) (w := w) (base := base) T).kw (ks := ["function"]) (g := fun us => us) fun _ _ _ _ _ _ ws hl => match ws, hl with | [_], _ => rfl
  have DK_ways_of := (DS_ways (P := P) (w := w) (base := base) T).kw (ks := ["function"]) (g := fun us => us) fun _ _ _ _ _ _ ws hl => match ws, hl with | [_], _ => rfl
  have DK_statement_at := (DS_at0 (P := P) (w := w) (base := base) T hU).kw (ks := ["way", "function"]) (g := swap2) fun _ _ _ _ _ _ ws hl => match ws, hl with | [_, _], _ => rfl
  have D_l_is_told := D_told (P := P) (w := w) (base := base) T
  have D_l_near := D_near (P := P) (w := w) (base := base) T
  obtain ⟨f, fd, S⟩ := T.d_law
  refine DfS.mk' (k := 13) S sc_law (fun vs H Q E h => ?_) (fun cdv A outer s H vs Q E hgd hr h => ?_)
  · obtain ⟨a, ns, rfl, _⟩ := h
    rfl
  · obtain ⟨a, nums, rfl, hS, hz, k⟩ := h
    have big : (300000 : Nat) ≤ sizeLine := by decide
    refine ⟨_, (pss_cons (ps_set (i := 1) sc_law.nd rfl (.inr rfl) (pe_d D_l_stock hgd hr (pa_cons (pv 0) pa_nil)))
      (pss_cons (ps_for PassesOwn.never rfl (pi_range1 rfl T.b_range (pa_cons pe_int pa_nil)) (pg_name (i := 2) sc_law.nd rfl (.inl rfl))
      (pss_cons (ps_set (i := 3) sc_law.nd rfl (.inr rfl) (pe_d D_l_shape hgd hr (pa_cons (pv 1) (pa_cons pe_int pa_nil))))
      (pss_cons (ps_set (i := 4) sc_law.nd rfl (.inl rfl) (pe_d D_l_function hgd hr (pa_cons (pv 1) (pa_cons pe_str (pa_cons (pv 3) (pa_cons (pe_lst (pa_cons (pe_tup (pa_cons pe_str (pa_cons (pe_callB call_len_seq (by rfl) T.b_len (by decide +kernel) (pa_cons (pe_ix ix_tup (pv 3) pe_int (fun _ _ => rfl)) pa_nil)) (pa_cons (pe_callB call_len_seq (by rfl) T.b_len (by decide +kernel) (pa_cons (pe_ix ix_tup (pv 3) pe_int (fun _ _ => rfl)) pa_nil)) pa_nil)))) pa_nil)) (pa_cons pe_int pa_nil)))))))
      (pss_cons (ps_if (pt_cmpR op_eq (pv 2) pe_int (nomark _)) (pss_one (ps_set (i := 4) sc_law.nd rfl (.inl rfl) (pe_op op_catA (pe_slice sl_tupA (pv 4) po_none (po_some pe_int)) (pe_tup (pa_cons (pe_op op_catA (pe_op op_catA (pe_slice sl_tupA (pe_ix ix_tup (pv 4) pe_int (fun _ _ => rfl)) po_none (po_some pe_int)) (pe_tup (pa_cons (pe_d D_l_within_four hgd hr (pa_cons (pv 1) pa_nil)) pa_nil))) (pe_slice sl_tupA (pe_ix ix_tup (pv 4) pe_int (fun _ _ => rfl)) (po_some pe_int) po_none)) pa_nil))))) pss_nil)
      (pss_cons (ps_if (pt_cmpR op_eq (pv 2) pe_int (nomark _)) (pss_cons (ps_set (i := 5) sc_law.nd rfl (.inl rfl) (pe_op op_mul pe_int (pe_d D_l_draw hgd hr (pa_cons (pv 1) (pa_cons pe_int pa_nil)))))
      (pss_one (ps_set (i := 4) sc_law.nd rfl (.inl rfl) (pe_op op_catA (pe_slice sl_tupA (pv 4) po_none (po_some pe_int)) (pe_tup (pa_cons (pe_callTy call_tuple_of (by rfl) T.b_tuple (by decide +kernel) (pa_cons (pe_lc (X := (cxOf CX0 P w K mg base ["script", "stock", "turn", "shape", "function", "many", "again", "known", "rows", "due", "way", "own", "told", "near"] "law" (defScope s_law) f cdv A outer s H E).nox) (own := [("again", 6)]) (te := tCall (spSimple K) [] E0 (tCons (tVar 1) (tCons (tVar 3) (tCons (tLst tNil) tNil)))) (g := gName 6) (tt := tYes) rfl sc_law.nd (pi_range1 rfl T.b_range (pa_cons (pv 5) pa_nil)) (blkOk_by (own := [("again", 6)]) (N := ["script", "stock", "turn", "shape", "function", "many", "again", "known", "rows", "due", "way", "own", "told", "near"]) (sc := defScope s_law) (by decide +kernel)) (fun _ _ _ _ _ => pg_name (i := 6) sc_law.nd rfl (.inl rfl)) (fun _ _ _ _ _ => pts_nil) (fun _ _ _ _ _ => (pe_d D_l_simple hgd hr (pa_cons (pv 1) (pa_cons (pv 3) (pa_cons (pe_lst pa_nil) pa_nil)))))) pa_nil)) pa_nil)))))) pss_nil)
      (pss_cons (ps_par (i := 7) (j := 8) (by rfl) sc_law.nd rfl rfl (by decide) rfl rfl (pa_cons (pe_callB (call_repr hgd hr.units) (by rfl) T.b_repr (by decide +kernel) (pa_cons (pv 4) pa_nil)) (pa_cons (pe_d D_l_all_ways hgd hr (pa_cons (pe_ix ix_tup (pv 4) pe_int (fun _ _ => rfl)) (pa_cons (pe_tup pa_nil) pa_nil))) pa_nil)) (by rfl))
      (pss_cons (ps_set (i := 9) sc_law.nd rfl (.inl rfl) (pe_lst (pa_cons (pe_callTy call_tuple_of (by rfl) T.b_tuple (by decide +kernel) (pa_cons (pe_callB (cr_sortedTS hr.units) (by rfl) T.b_sorted (by decide +kernel) (pa_cons (pe_op op_cat (pe_callTy call_list_of (by rfl) T.b_list (by decide +kernel) (pa_cons (pe_op op_catA (pe_op op_catA (pe_ix ix_tup (pv 3) pe_int (fun _ _ => rfl)) (pe_ix ix_tup (pv 3) pe_int (fun _ _ => rfl))) (pe_ix ix_tup (pv 3) pe_int (fun _ _ => rfl))) pa_nil)) (pe_lst (pa_cons pe_str pa_nil))) pa_nil)) pa_nil)) (pa_cons (pe_callTy call_tuple_of (by rfl) T.b_tuple (by decide +kernel) (pa_cons (pe_lc (X := (cxOf CX0 P w K mg base ["script", "stock", "turn", "shape", "function", "many", "again", "known", "rows", "due", "way", "own", "told", "near"] "law" (defScope s_law) f cdv A outer s H E).nox) (own := [("way", 10), ("own", 11)]) (g := gTup K 2 (gCons (gName 10) (gCons (gName 11) gNil))) (te := tVar 10) (tt := tYes) rfl sc_law.nd (pi_list (pv 8)) (blkOk_by (own := [("way", 10), ("own", 11)]) (N := ["script", "stock", "turn", "shape", "function", "many", "again", "known", "rows", "due", "way", "own", "told", "near"]) (sc := defScope s_law) (by decide +kernel)) (fun _ _ _ _ _ => pg_tup rfl (pgs_cons (pg_name (i := 10) sc_law.nd rfl (.inl rfl)) (pgs_cons (pg_name (i := 11) sc_law.nd rfl (.inl rfl)) pgs_nil))) (fun _ _ _ _ _ => pts_nil) (fun _ _ _ _ _ => (pv 10))) pa_nil)) pa_nil))))
      (pss_cons (ps_set (i := 12) sc_law.nd rfl (.inl rfl) (pe_lst (pa_cons (pe_d D_names_of hgd hr (pa_cons (pv 4) pa_nil)) (pa_cons (pe_d D_ways_of hgd hr (pa_cons (pv 4) pa_nil)) pa_nil))))
      (pss_cons (ps_if (pt_cmpR op_eq (pv 2) pe_int (nomark _)) (pss_one (ps_set (i := 12) sc_law.nd rfl (.inl rfl) (pe_lst (pa_cons (pe_kwd DK_names_of hgd hr (pk_cons (pv 4) pk_nil)) (pa_cons (pe_kwd DK_ways_of hgd hr (pk_cons (pv 4) pk_nil)) pa_nil))))) pss_nil)
      (pss_cons (ps_if (PW.pt (pw_or (pt_cmpR op_ne (pe_callB (call_repr hgd hr.units) (by rfl) T.b_repr (by decide +kernel) (pa_cons (pv 12) pa_nil)) (pe_callB (call_repr hgd hr.units) (by rfl) T.b_repr (by decide +kernel) (pa_cons (pv 9) pa_nil)) (nomark _)) (pw_or1 (pt_cmpR (op_neD hr.units) (pe_callTy call_list_of (by rfl) T.b_list (by decide +kernel) (pa_cons (pe_ix ix_list (pv 12) pe_int (fun _ _ => rfl)) pa_nil)) (pe_callB (cr_sortedTW hr.units) (by rfl) T.b_sorted (by decide +kernel) (pa_cons (pe_ix ix_list (pv 12) pe_int (fun _ _ => rfl)) pa_nil)) (nomark _))))) (pss_one (ps_ret pe_bl)) pss_nil)
      (pss_cons (ps_for PassesOwn.never rfl (pi_list (pe_slice sl_list (pv 8) po_none (po_some pe_int))) (pg_tup rfl (pgs_cons (pg_name (i := 10) sc_law.nd rfl (.inl rfl)) (pgs_cons (pg_name (i := 11) sc_law.nd rfl (.inl rfl)) pgs_nil)))
      (pss_cons (ps_if (pt_not (pt_val (pe_d D_l_is_told hgd hr (pa_cons (pv 4) (pa_cons (pv 10) (pa_cons (pv 8) pa_nil)))))) (pss_one (ps_ret pe_bl)) pss_nil)
      (pss_one (ps_if (pt_cmpR op_ne (pe_callB (call_repr hgd hr.units) (by rfl) T.b_repr (by decide +kernel) (pa_cons (pe_kwg (g := swap2) DK_statement_at hgd hr (pk_cons (pv 10) (pk_cons (pv 4) pk_nil)) swap2_rel) pa_nil)) (pe_callB (call_repr hgd hr.units) (by rfl) T.b_repr (by decide +kernel) (pa_cons (pv 11) pa_nil)) (nomark _)) (pss_one (ps_ret pe_bl)) pss_nil))))
      (pss_cons (ps_set (i := 10) sc_law.nd rfl (.inl rfl) (pe_ix ix_tup (pe_d D_l_pick hgd hr (pa_cons (pv 1) (pa_cons (pe_op op_cat (pv 8) (pe_lst (pa_cons (pe_tup (pa_cons (pe_tup (pa_cons pe_int (pa_cons pe_int (pa_cons pe_int pa_nil)))) (pa_cons (pe_tup pa_nil) pa_nil))) pa_nil))) pa_nil))) pe_int (fun _ _ => rfl)))
      (pss_cons (ps_for PassesOwn.never rfl (pi_list (pe_d D_l_near hgd hr (pa_cons (pv 1) (pa_cons (pv 10) pa_nil)))) (pg_name (i := 13) sc_law.nd rfl (.inl rfl))
      (pss_one (ps_if (pt_not (pt_val (pe_d D_l_is_told hgd hr (pa_cons (pv 4) (pa_cons (pv 13) (pa_cons (pv 8) pa_nil)))))) (pss_one (ps_ret pe_bl)) pss_nil)))
      (pss_one (ps_if (PW.pt (pw_or (pt_cmpR op_ne (pe_callB (call_repr hgd hr.units) (by rfl) T.b_repr (by decide +kernel) (pa_cons (pv 4) pa_nil)) (pv 7) (nomark _)) (pw_or1 (pt_cmpR op_ne (pe_callB (call_repr hgd hr.units) (by rfl) T.b_repr (by decide +kernel) (pa_cons (pe_lst (pa_cons (pe_d D_names_of hgd hr (pa_cons (pv 4) pa_nil)) (pa_cons (pe_d D_ways_of hgd hr (pa_cons (pv 4) pa_nil)) pa_nil))) pa_nil)) (pe_callB (call_repr hgd hr.units) (by rfl) T.b_repr (by decide +kernel) (pa_cons (pv 9) pa_nil)) (nomark _))))) (pss_one (ps_ret pe_bl)) pss_nil)))))))))))))))
      (pss_one (ps_ret pe_bl)))), ?_⟩
    refine ⟨_, rfl, a, nums, rfl, hS, hz, fun p l G1 H1 W1 => ?_⟩
    dsimp only [gName]
    refine ⟨4, rfl, by decide, by decide, for_range (lo := 0) (n := 4) (fun i σ H2 => ∃ o2 o3 o4 o5 o6 o7 o8 o9 o10 o11 o12 o13, σ = [some (.ref a), some (.ref p), o2, o3, o4, o5, o6, o7, o8, o9, o10, o11, o12, o13] ∧ ∃ G2, Wd p l G2 H2)
      ⟨_, _, _, _, _, _, _, _, _, _, _, _, rfl, _, W1⟩ ?_ (fun σ H2 _ => k H2)⟩
    rintro i σ H2 hi ⟨o2, o3, o4, o5, o6, o7, o8, o9, o10, o11, o12, o13, rfl, G2, W2⟩
    dsimp only [gName, List.set]
    refine TD.asg (K := K) (p := p) (l := l) (G := G2) (φ := fun d => ∃ a b c, ShapeD a b c d ∧ ∃ zs : List Str, a ++ b ++ c = zs.map .str) (td_call (tds_consP (TD.flat (φ := fun x => x = .int 5) (fun _ => .int 5) rfl) tds_nilP) (fun ds h => ?_) rfl) W2 fun sv sd G3 H3 e3 dsv hsh => ?_
    · obtain ⟨_, _, rfl, e1, rfl⟩ := h
      rw [e1]
      exact ⟨5, rfl, by decide, by decide⟩
    obtain ⟨a1, b1, c1, hs0, zs, hzs⟩ := hsh
    have hsd := hs0.1
    have dsv' := dsv
    rw [hsd] at dsv'
    dsimp only [gName, List.set]
    refine TD.asg (K := K) (p := p) (l := l) (G := G3) (φ := FunD 6 a1 b1 c1) (td_call2 (a1, b1, c1) (tds_consP (TD.flat (φ := fun x => x = .str "f") (fun _ => .str "f") rfl) (tds_consP (td_is rfl dsv) (tds_consP (φ := fun x => x = .list [.tuple [.str "f", .int (a1.length : Nat), .int (b1.length : Nat)]])
      (tx_lst (tx_cons (tx_tup (tx_cons tx_str (tx_cons (tx_lenT (tx_ix (c := 0) (td_is rfl dsv') rfl)) (tx_cons (tx_lenT (tx_ix (c := 1) (td_is rfl dsv') rfl)) tx_nil))) (by show 3 ≤ sizeLine; decide)) tx_nil) (by show 1 ≤ sizeLine; decide)) (tds_consP (TD.flat (φ := fun x => x = .int 7) (fun _ => .int 7) rfl) tds_nilP)))) (fun ds h => ?_) rfl) e3.w fun fv fd2 G4 H4 e4 dfv hfn => ?_
    · obtain ⟨_, _, rfl, e1, _, _, rfl, e2, _, _, rfl, e3, _, _, rfl, e4, rfl⟩ := h
      rw [e1, e2, e3, e4]
      refine ⟨"f", _, _, rfl, ⟨by decide +kernel, Nat.zero_le _, by decide +kernel⟩, hs0, ⟨_, rfl, by show 1 ≤ 10; decide, fun o mo => ?_⟩, by decide, by decide⟩
      rw [List.mem_singleton.mp mo]
      exact ⟨shp_fij (by decide +kernel), "f", _, _, rfl, ⟨by decide +kernel, Nat.zero_le _, by decide +kernel⟩, by omega, by have := hs0.2.1.1; omega, by omega, by have := hs0.2.2.1.1; omega⟩
    obtain ⟨z, hd, ft, ss0, rfl, oz, oa, ob, oc, oh, of_, ls, hss⟩ := hfn
    have gd0 : Gd ss0 := by
      refine ⟨fun s m => (hss s m).to 1, by omega, ?_, (body_ok (n := 3) (m := 6) (N := 2000000) hss ls (by decide)).mono⟩
      have h1 := nL_le (nS_le 3) hss ls
      have h2 : 6 * nB 3 = 510 := rfl
      omega
    have h510 : nL ss0 ≤ 510 := by
      have h1 := nL_le (nS_le 3) hss ls
      have h2 : 6 * nB 3 = 510 := rfl
      omega
    have h40 : ∀ s ∈ ss0, OkS 4 s := fun s m => (hss s m).to 1
    have hzT : ∀ z ∈ zs, Tm (.str z) := fun z m => by
      have m2 : PyData.str z ∈ a1 ++ b1 ++ c1 := by
        rw [hzs]
        exact List.mem_map.mpr ⟨z, m, rfl⟩
      rcases List.mem_append.mp m2 with m2 | m2
      · rcases List.mem_append.mp m2 with m2 | m2
        · exact oa.2 _ m2
        · exact ob.2 _ m2
      · exact oc.2 _ m2
    have hzL : zs.length ≤ 24 := by
      have h1 := congrArg List.length hzs
      rw [List.length_append, List.length_append, List.length_map] at h1
      have := oa.1
      have := ob.1
      have := oc.1
      omega
    have dfv : Da K G4 fv (fn7 z a1 b1 c1 hd ft ss0) := dfv
    dsimp only [gName, List.set]
    have W4 := e4.w
    have dsv4 := dsv.mono e4.sub
    have dsv4' := dsv'.mono e4.sub
    -- turn 2, turn 3: other bodies
    refine seq_by (fun σ2 H2 => ∃ (v4 : V) (G5 : Hp) (ss : List Sx), σ2 = [some (.ref a), some (.ref p), some (.int (0 + (i : Nat))), some sv, some v4, o5, o6, o7, o8, o9, o10, o11, o12, o13] ∧ Ext p l G4 H4 G5 H2 ∧ Da K G5 v4 (fn7 z a1 b1 c1 hd ft ss) ∧ Gd ss) (fun nx => ?_) ?_
    · refine ⟨_, rfl, rfl, _, rfl, iteB (fun _ => ?_) (fun _ => nx _ _ ⟨fv, G4, ss0, rfl, Ext.refl W4, dfv, gd0⟩)⟩
      refine TD.asg (K := K) (p := p) (l := l) (G := G4) (φ := fun x => ∃ ss, x = fn7 z a1 b1 c1 hd ft ss ∧ Gd ss) (TD.imp (td_catAR (φ := fun bs => ∃ ss, bs = [.tuple (datL ss)] ∧ Gd ss) (tx_take 6 (td_is rfl dfv)) (TD.imp (td_tupP (tds_consP (φ := fun d => ∃ ss, d = .tuple (datL ss) ∧ Gd ss) (TD.imp (td_catAQ (φ := fun cs => ∃ s, cs = (datL ss0).take 1 ++ [datS s] ∧ OkS 4 s ∧ nS s ≤ 5)
        (TD.imp (td_catAR (φ := fun bs => ∃ s, bs = [datS s] ∧ OkS 4 s ∧ nS s ≤ 5) (tx_take 1 (tx_ix (c := 6) (td_is rfl dfv) rfl)) (TD.imp (td_tupP (tds_consP (φ := fun d => ∃ s, d = datS s ∧ OkS 4 s ∧ nS s ≤ 5) (td_call tds_nilP (fun ds h => h) rfl) tds_nilP) fun ds h => ?l1) fun d h => ?i1) fun bs h => ?z1) fun d h => ?i2)
        (tx_drop 1 (tx_ix (c := 6) (td_is rfl dfv) rfl)) fun as h => ?z2) fun d h => ?i3) tds_nilP) fun ds h => ?l2) fun d h => ?i4) fun bs h => ?z3) fun d h => ?i5) W4 fun v4 d4 G5 H5 e5 dv5 ⟨ss, hs4, gd⟩ => nx _ _ ⟨v4, G5, ss, rfl, e5, by subst hs4; exact dv5, gd⟩
      case l1 =>
        obtain ⟨_, _, rfl, _, rfl⟩ := h
        show 1 ≤ sizeLine
        decide
      case i1 =>
        obtain ⟨_, rfl, _, _, rfl, ⟨s, rfl, h1, h2⟩, rfl⟩ := h
        exact ⟨_, rfl, s, rfl, h1, h2⟩
      case z1 =>
        obtain ⟨s, rfl, _⟩ := h
        rw [List.length_take]
        show _ + 1 ≤ _
        omega
      case i2 =>
        obtain ⟨_, rfl, s, rfl, h1, h2⟩ := h
        exact ⟨_, rfl, s, rfl, h1, h2⟩
      case z2 =>
        obtain ⟨s, rfl, _⟩ := h
        have l0 : (datL ss0).length ≤ 6 := by rw [datL_map, List.length_map]; exact ls
        rw [List.length_append, List.length_take, List.length_drop]
        show _ + 1 + _ ≤ _
        omega
      case i3 =>
        obtain ⟨_, rfl, s, rfl, h1, h2⟩ := h
        refine ⟨ss0.take 1 ++ [s] ++ ss0.drop 1, ?_, ?_⟩
        · rw [datL_map, datL_map, List.map_append, List.map_append, List.map_take, List.map_drop]
          rfl
        · have all : ∀ x ∈ ss0.take 1 ++ [s] ++ ss0.drop 1, OkS 4 x := fun x m => by
            rcases List.mem_append.mp m with m | m
            · rcases List.mem_append.mp m with m | m
              · exact h40 x (List.mem_of_mem_take m)
              · rw [List.mem_singleton.mp m]
                exact h1
            · exact h40 x (List.mem_of_mem_drop m)
          have len : (ss0.take 1 ++ [s] ++ ss0.drop 1).length ≤ 7 := by
            rw [List.length_append, List.length_append, List.length_take, List.length_drop]
            show _ + 1 + _ ≤ 7
            omega
          refine ⟨all, by omega, ?_, (body_ok (n := 4) (m := 7) (N := 8500000) all len (by decide)).mono⟩
          have e1 := nL_append (ss0.take 1) (ss0.drop 1)
          rw [List.take_append_drop] at e1
          rw [nL_append, nL_append]
          simp only [nL]
          omega
      case l2 =>
        obtain ⟨_, _, rfl, _, rfl⟩ := h
        show 1 ≤ sizeLine
        decide
      case i4 =>
        obtain ⟨_, rfl, _, _, rfl, ⟨ss, rfl, g⟩, rfl⟩ := h
        exact ⟨_, rfl, ss, rfl, g⟩
      case z3 =>
        obtain ⟨ss, rfl, _⟩ := h
        show 7 ≤ sizeLine
        decide
      case i5 =>
        obtain ⟨_, rfl, ss, rfl, g⟩ := h
        exact ⟨ss, rfl, g⟩
    rintro σ2 H5 ⟨v4, G5, ss1, rfl, e5, dv5, gd1⟩
    refine seq_by (fun σ2 H2 => ∃ (v4 : V) (o5 o6 : Option V) (G6 : Hp) (ss : List Sx), σ2 = [some (.ref a), some (.ref p), some (.int (0 + (i : Nat))), some sv, some v4, o5, o6, o7, o8, o9, o10, o11, o12, o13] ∧ Ext p l G4 H4 G6 H2 ∧ Da K G6 v4 (fn7 z a1 b1 c1 hd ft ss) ∧ Gd ss) (fun nx => ?_) ?_
    · refine ⟨_, rfl, rfl, _, rfl, iteB (fun _ => ?_) (fun _ => nx _ _ ⟨v4, _, _, G5, ss1, rfl, e5, dv5, gd1⟩)⟩
      have W5 := e5.w
      refine TD.asg (K := K) (p := p) (l := l) (G := G5) (φ := fun d => ∃ r : Int, d = .int (40 * r) ∧ 0 ≤ r ∧ r ≤ 1) (fun G1 H Q W s k => ⟨_, rfl, p, l, G1, 2, rfl, by decide, by decide, W, fun r H1 r0 r1 e => ⟨40, r, rfl, rfl, .inl ⟨by decide, by decide⟩, k _ _ _ _ e (.int _) ⟨r, rfl, r0, by omega⟩⟩⟩) W5 fun mv md G6 H6 e6 dmv ⟨r, hr, r0, r1⟩ => ?_
      subst hr
      cases dmv
      have E6 := e5.trans W4 e6
      have dv6 := dv5.mono e6.sub
      have dsv6 := dsv4.mono E6.sub
      dsimp only [gName, List.set]
      refine TD.asg (K := K) (p := p) (l := l) (G := G6) (φ := fun x => ∃ ss, x = fn7 z a1 b1 c1 hd ft ss ∧ Gd ss) (TD.imp (td_catAR (φ := fun bs => ∃ ss, bs = [.tuple (datL ss)] ∧ Gd ss) (tx_take 6 (td_is rfl dv6)) (TD.imp (td_tupP (tds_consP (φ := fun d => ∃ ss, d = .tuple (datL ss) ∧ Gd ss) (TD.imp (td_tupleN (td_lc (M := 40) (φ := SimD) (tw_var (z := 40 * r) rfl (by omega) (by omega)) (fun N hN => by omega) (by decide) fun q => td_call (tds_consP (td_is rfl dsv6) (tds_consP (φ := fun x => x = .list []) (tx_lst tx_nil) tds_nilP)) (fun ds h => ?a1) rfl)) fun d h => ?i3) tds_nilP) fun ds h => ?l2) fun d h => ?i4) fun bs h => ?z3) fun d h => ?i5) E6.w fun v4 d4 G7 H7 e7 dv7 ⟨ss, hs4, gd⟩ => nx _ _ ⟨v4, _, _, G7, ss, rfl, E6.trans W4 e7, by subst hs4; exact dv7, gd⟩
      case a1 =>
        obtain ⟨_, _, rfl, e1, _, _, rfl, e2, rfl⟩ := h
        rw [e1, e2]
        exact ⟨sd, _, a1, b1, c1, rfl, hs0, [], rfl, Nat.zero_le _, fun o mo => absurd mo List.not_mem_nil⟩
      case i3 =>
        obtain ⟨ds, rfl, ln, ho⟩ := h
        obtain ⟨ss, rfl, l2, h2⟩ := all_st (n := 0) fun d m => (by
          obtain ⟨w, ds, e, h⟩ := ho d m
          exact ⟨.sim w ds, ⟨w, ds, rfl, h⟩, by rw [datS, e]⟩ : StD 0 d)
        have len : ss.length ≤ 40 := by omega
        refine ⟨ss, rfl, fun s m => (h2 s m).to 4, len, ?_, (body_ok (n := 0) (m := 40) (N := 150000) h2 len (by decide)).mono⟩
        have e1 := nL_le (nS_le 0) h2 len
        have e2 : 40 * nB 0 = 40 := rfl
        omega
      case l2 =>
        obtain ⟨_, _, rfl, _, rfl⟩ := h
        show 1 ≤ sizeLine
        decide
      case i4 =>
        obtain ⟨_, rfl, _, _, rfl, ⟨ss, rfl, g⟩, rfl⟩ := h
        exact ⟨_, rfl, ss, rfl, g⟩
      case z3 =>
        obtain ⟨ss, rfl, _⟩ := h
        show 7 ≤ sizeLine
        decide
      case i5 =>
        obtain ⟨_, rfl, ss, rfl, g⟩ := h
        exact ⟨ss, rfl, g⟩
    clear dv5 gd1 e5 dfv gd0 hss ls h510 h40
    rintro σ2 H6 ⟨v4, o5, o6, G6, ss, rfl, e6, dv6, gd⟩
    have W6 := e6.w
    have dsv6 := dsv4'.mono e6.sub
    clear e6 dsv4' dsv4
    have okF : Okd 60 16000000 (fn7 z a1 b1 c1 hd ft ss) := fn_ok oz oa ob oc oh of_ gd.2.2.2
    have fnN : FnN zs (fn7 z a1 b1 c1 hd ft ss) := ⟨_, a1, b1, c1, _, rfl, hzs, by omega⟩
    have fnS : FnS ss (fn7 z a1 b1 c1 hd ft ss) := ⟨_, _, _, _, _, _, rfl⟩
    have wk := gd.wk
    have rowsN : ∀ r ∈ wlL ss [] 0, r.1 ≠ [] := fun r m => (gd.rows r m).2.2.2
    have rowsL : ∀ r ∈ wlL ss [] 0, r.1.length ≤ 9 := fun r m => (gd.rows r m).2.2.1
    have okD := due_ok hzT hzL gd
    have own := gd.own
    have asc := wlL_asc ss [] 0
    have lenR := wlL_len ss [] 0
    have h515 := gd.2.2.1
    -- known, rows
    obtain ⟨kn, hkn⟩ : ∃ t : Str, (fn7 z a1 b1 c1 hd ft ss).shown = t := ⟨_, rfl⟩
    refine (show TX K p l _ G6 (tCB (rRepr K) (tCons (tVar 4) tNil)) (.str kn) from ?kn) G6 H6 _ W6 (Same.refl _) fun v7 d7 G7 H7 e7 da7 f7 => ?_
    case kn =>
      rw [← hkn]
      exact tx_repr (td_is rfl dv6) okF
    subst f7
    cases da7
    have dv7 := dv6.mono e7.sub
    refine (show TX K p l _ G7 _ (.list ((wlL ss [] 0).map rowW)) from tx_call (tx_cons (tx_ix (c := 6) (td_is rfl dv7) rfl) (tx_cons (tx_tup tx_nil) tx_nil)) ⟨ss, [], rfl, wk, rfl⟩) G7 H7 _ e7.w (Same.refl _) fun v8 d8 G8 H8 e8 da8 f8 => ?_
    subst f8
    have s68 := e7.sub.trans e8.sub
    have dv8 := dv6.mono s68
    have dsv8 := dsv6.mono s68
    have W8 := e8.w
    refine ⟨_, _, rfl, ?_⟩
    dsimp only [List.set]
    clear e7 e8 dv7 W6 dv6 dsv6
    -- due
    refine TD.asg (K := K) (p := p) (l := l) (G := G8) (φ := fun x => x = dueD2 zs ss) (tx_lst (tx_cons (tx_tupOfL (tx_sortS (.inr ?nm))) (tx_cons (tx_tupOfL (tx_lcL (A := rowW) (B := fun r => wayD r.1) (td_is rfl da8) (by omega) fun r mr x G1 H1 R dx W1 s1 kR => ?_)) tx_nil)) (by show 2 ≤ sizeLine; decide)) W8 fun v9 d9 G9 H9 e9 da9 f9 => ?_
    case nm =>
      rw [List.map_append, ← hzs]
      have ll := congrArg List.length hzs
      rw [List.length_append, List.length_append, List.length_map] at ll
      exact tx_cat (tx_listOfT (tx_catA (tx_catA (tx_ix (c := 0) (td_is rfl dsv8) rfl) (tx_ix (c := 1) (td_is rfl dsv8) rfl) (by omega)) (tx_ix (c := 2) (td_is rfl dsv8) rfl) (by rw [List.length_append]; omega))) (tx_lst (tx_cons tx_str tx_nil)) (by rw [List.length_append, List.length_append]; show _ + 1 ≤ _; omega)
    · obtain ⟨B, ys, rfl, sqb, dbx⟩ := dx.tupI
      obtain ⟨y0, y1, rfl, q0, q1⟩ := dbx.two
      exact ⟨B, _, rfl, sameT W1.same sqb, rfl, _, _, rfl, _, _, rfl, rfl, rfl, _, rfl, kR _ _ _ (Ext.refl W1) q0⟩
    subst f9
    dsimp only [gName, List.set]
    have dv9 := dv8.mono e9.sub
    have da89 := da8.mono e9.sub
    have W9 := e9.w
    -- told
    have told : ∀ {σ' : St} {G' : Hp}, σ'[4]? = some (some v4) → Da K G' v4 (fn7 z a1 b1 c1 hd ft ss) → TX K p l σ' G' (tLst (tCons (tCall (spNames K) [] E0 (tCons (tVar 4) tNil)) (tCons (tCall (spWaysOf K) [] E0 (tCons (tVar 4) tNil)) tNil))) (dueD2 zs ss) := fun h0 hd =>
      tx_lst (tx_cons (tx_call (tx_cons (td_is h0 hd) tx_nil) ⟨zs, _, rfl, fnN, rfl⟩) (tx_cons (tx_call (tx_cons (td_is h0 hd) tx_nil) ⟨ss, _, rfl, fnS, wk, rfl⟩) tx_nil)) (by show 2 ≤ sizeLine; decide)
    refine TD.asg (K := K) (p := p) (l := l) (G := G9) (φ := fun x => x = dueD2 zs ss) (told rfl dv9) W9 fun v12 d12 GA HA eA daA fA => ?_
    subst fA
    dsimp only [gName, List.set]
    have dvA := dv9.mono eA.sub
    have da8A := da89.mono eA.sub
    have da9A := da9.mono eA.sub
    have WA := eA.w
    clear dv9 da89 da9 W9 eA e9 da8 dv8 W8 dsv8
    refine seq_by (fun σ2 H2 => ∃ (v12 : V) (GB : Hp), σ2 = [some (.ref a), some (.ref p), some (.int (0 + (i : Nat))), some sv, some v4, o5, o6, some (.str kn), some v8, some v9, o10, o11, some v12, o13] ∧ Ext p l GA HA GB H2 ∧ Da K GB v12 (dueD2 zs ss)) (fun nx => ?_) ?_
    · refine ⟨_, rfl, rfl, _, rfl, iteB (fun _ => ?_) (fun _ => nx _ _ ⟨v12, GA, rfl, Ext.refl WA, daA⟩)⟩
      refine TD.asg (K := K) (p := p) (l := l) (G := GA) (φ := fun x => x = dueD2 zs ss) (tx_lst (tx_cons (tx_kw1 (td_is rfl dvA) ⟨zs, _, rfl, fnN, rfl⟩) (tx_cons (tx_kw1 (td_is rfl dvA) ⟨ss, _, rfl, fnS, wk, rfl⟩) tx_nil)) (by show 2 ≤ sizeLine; decide)) WA fun v13 d13 GB HB eB daB fB => ?_
      subst fB
      exact nx _ _ ⟨v13, GB, rfl, eB, daB⟩
    rintro σ2 HB ⟨v12, GB, rfl, eB, daB⟩
    have dvB := dvA.mono eB.sub
    have da8B := da8A.mono eB.sub
    have da9B := da9A.mono eB.sub
    have WB := eB.w
    clear dvA da8A da9A eB daA WA
    obtain ⟨bs, hbs⟩ := ways_cons rowsN
    have ascB : (bs.map consW).Pairwise (· < ·) := by
      rw [← hbs]
      exact List.pairwise_map.mpr asc
    have waysE : waysD ss = .tuple (bs.map fun b => wayD (consW b)) := by
      have h1 : (wlL ss [] 0).map (fun r => wayD r.1) = ((wlL ss [] 0).map (·.1)).map wayD := by rw [List.map_map]; rfl
      rw [waysD, h1, hbs, List.map_map]
      rfl
    have daB' := daB
    rw [dueD2, waysE] at daB'
    refine tt_ne (tx_repr (td_is rfl daB) okD) (tx_repr (td_is rfl da9B) okD) GB HB _ WB (Same.refl _) fun GC HC eC => ?_
    rw [decide_eq_true rfl]
    refine if_no rfl ?_
    have shpW : Shp (.list (bs.map fun b => wayD (consW b))) := by
      have h := ways_shp (bs.map consW)
      rw [List.map_map] at h
      exact h
    refine tt_neD (d := .list (bs.map fun b => wayD (consW b))) shpW (eqv_self shpW) (tx_listOfT (tx_ixL (c := 1) (td_is rfl (daB'.mono eC.sub)) rfl)) (tx_sortW ascB (tx_ixL (c := 1) (td_is rfl (daB'.mono eC.sub)) rfl)) GC HC _ eC.w (Same.refl _) fun GD HD eD => ?_
    refine if_no rfl ?_
    dsimp only [tNext]
    have sBD := eC.sub.trans eD.sub
    have dvD := dvB.mono sBD
    have da8D := da8B.mono sBD
    have da9D := da9B.mono sBD
    have WD := eD.w
    clear daB daB' eC eD dvB da8B da9B WB
    have k1 : ∀ {σ' : St} {G' : Hp}, σ'[4]? = some (some v4) → Da K G' v4 (fn7 z a1 b1 c1 hd ft ss) → TX K p l σ' G' (tCB (rRepr K) (tCons (tVar 4) tNil)) (.str kn) := fun h0 hd => by
      rw [← hkn]
      exact tx_repr (td_is h0 hd) okF
    generalize hrs : wlL ss [] 0 = rs at rowsN rowsL own asc lenR da8D
    -- the first rows
    refine (show TX K p l _ GD _ (.list ((rs.map rowW).take 12)) from tx_takeL 12 (td_is rfl da8D)) GD HD _ WD (Same.refl _) fun rv dr GE HE eE drv hdr => ?_
    subst hdr
    rw [← List.map_take] at drv
    have dvE := dvD.mono eE.sub
    have da8E := da8D.mono eE.sub
    have da9E := da9D.mono eE.sub
    have WE := eE.w
    clear dvD da8D da9D eE WD
    cases drv with
    | @lst I1 xs _ t1 dx =>
      refine ⟨I1, rfl, ⟨xs, SqL.of (WE.same _ _ t1)⟩, for_list (xs := xs) (fun q σ' H' => ∃ (o10 o11 : Option V) (GF : Hp), σ' = [some (.ref a), some (.ref p), some (.int (0 + (i : Nat))), some sv, some v4, o5, o6, some (.str kn), some v8, some v9, o10, o11, some v12, o13] ∧ Ext p l GE HE GF H') ⟨_, _, GE, rfl, Ext.refl WE⟩ (fun q σ' H' _ ⟨_, _, GF, _, e⟩ => SqL.of (e.w.same _ _ (e.sub _ _ t1))) ?_ ?_⟩
      · rintro q x σ' H' hx ⟨o10, o11, GF, rfl, eF⟩
        obtain ⟨d, hd', dd⟩ := dx.get hx
        rw [List.getElem?_map] at hd'
        obtain ⟨r, hr, rfl⟩ := Option.map_eq_some_iff.mp hd'
        have mr : r ∈ rs := List.mem_of_mem_take (List.mem_of_getElem? hr)
        obtain ⟨B, bs2, rfl, sqb, dbx⟩ := (dd.mono eF.sub).tupI
        obtain ⟨b0, b1, rfl, q0, q1⟩ := dbx.two
        refine ⟨B, _, rfl, sameT eF.w.same sqb, rfl, _, _, rfl, _, _, rfl, rfl, ?_⟩
        dsimp only [gName, List.set]
        have dvF := dvE.mono eF.sub
        have da8F := da8E.mono eF.sub
        refine ts_told (K := K) (p := p) (l := l) (G := GF) (tx_call (tx_cons (td_is rfl dvF) (tx_cons (td_is rfl q0) (tx_cons (td_is rfl da8F) tx_nil))) ⟨ss, _, r.1, by rw [hrs], fnS, wk, by rw [hrs]; exact own, rfl⟩) eF.w fun GG HG eG => ?_
        dsimp only [tNext]
        refine tt_ne (K := K) (p := p) (l := l) (G := GG) (x := r.2.shown) (y := r.2.shown) (tx_repr (tx_kw2 (td_is rfl (q0.mono eG.sub)) (td_is rfl (dvF.mono eG.sub)) ⟨ss, _, r.1, rfl, fnS, wk, by rw [hrs]; exact find_mem asc r mr⟩) (own r mr)) (tx_repr (td_is rfl (q1.mono eG.sub)) (own r mr)) GG HG _ eG.w (Same.refl _) fun GH HH eH => ?_
        rw [decide_eq_true rfl]
        exact if_no rfl ⟨_, _, GH, rfl, (eF.trans WE eG).trans WE eH⟩
      · rintro σ' HF ⟨o10, o11, GF, rfl, eF⟩
        have dvF := dvE.mono eF.sub
        have da8F := da8E.mono eF.sub
        have da9F := da9E.mono eF.sub
        have WF := eF.w
        clear dx t1 dvE da8E da9E eF
        -- a way to go astray from
        refine TD.asg (K := K) (p := p) (l := l) (G := GF) (φ := fun d => ∃ w : List Int, d = wayD w ∧ w ≠ [] ∧ w.length ≤ 100) (td_ixP (td_pickQ (lo := 1) (m := 600) (tx_of (tx_cat (td_is rfl da8F) (tx_lst (tx_cons (tx_tup (tx_cons (tx_tup (tx_cons tx_int (tx_cons tx_int (tx_cons tx_int tx_nil)))) (tx_cons (tx_tup tx_nil) tx_nil))) tx_nil)) (by rw [List.length_map]; show _ + 1 ≤ _; omega)) ⟨_, rfl, ?_, ?_, fun d m => ?_⟩) rfl)) WF fun wv wd GG HG eG dwv ⟨y, hy, hne, hl⟩ => ?_
        · rw [List.length_append]
          show 1 ≤ _ + 1
          omega
        · rw [List.length_append, List.length_map]
          show _ + 1 ≤ 600
          omega
        · rcases List.mem_append.mp m with m | m
          · obtain ⟨r, mr, rfl⟩ := List.mem_map.mp m
            exact ⟨r.1, r.2, rfl, rowsN r mr, by have := rowsL r mr; omega⟩
          · rw [List.mem_singleton.mp m]
            exact ⟨[2, 0, 1], .tuple [], rfl, by decide, by decide⟩
        subst hy
        dsimp only [gName, List.set]
        have dvG := dvF.mono eG.sub
        have da8G := da8F.mono eG.sub
        have da9G := da9F.mono eG.sub
        have WG := eG.w
        clear dvF da8F da9F eG WF
        refine (show TD K p l _ GG _ (LsQ (IsW 300) 0 20) from td_call (tds_consP (td_is rfl dwv) tds_nilP) (fun ds h => ?_) rfl) GG HG _ WG (Same.refl _) fun nv nd GH HH eH dnv hnd => ?_
        · obtain ⟨_, _, rfl, e1, rfl⟩ := h
          rw [e1]
          exact ⟨y, rfl, hne, hl⟩
        obtain ⟨ds, rfl, _, _, hok⟩ := hnd
        have dvH := dvG.mono eH.sub
        have da8H := da8G.mono eH.sub
        have da9H := da9G.mono eH.sub
        have WH := eH.w
        clear dvG da8G da9G eH WG
        cases dnv with
        | @lst I2 xs2 _ t2 dx2 =>
          refine ⟨I2, rfl, ⟨xs2, SqL.of (WH.same _ _ t2)⟩, for_list (xs := xs2) (fun q σ' H' => ∃ (o13 : Option V) (GI : Hp), σ' = [some (.ref a), some (.ref p), some (.int (0 + (i : Nat))), some sv, some v4, o5, o6, some (.str kn), some v8, some v9, some wv, o11, some v12, o13] ∧ Ext p l GH HH GI H') ⟨_, GH, rfl, Ext.refl WH⟩ (fun q σ' H' _ ⟨_, GI, _, e⟩ => SqL.of (e.w.same _ _ (e.sub _ _ t2))) ?_ ?_⟩
          · rintro q x σ' H' hx ⟨o13, GI, rfl, eI⟩
            obtain ⟨d, hd', dd⟩ := dx2.get hx
            obtain ⟨w2, rfl, _⟩ := hok d (List.mem_of_getElem? hd')
            dsimp only [gName, List.set]
            refine ts_told (K := K) (p := p) (l := l) (G := GI) (tx_call (tx_cons (td_is rfl (dvH.mono eI.sub)) (tx_cons (td_is rfl (dd.mono eI.sub)) (tx_cons (td_is rfl (da8H.mono eI.sub)) tx_nil))) ⟨ss, _, w2, by rw [hrs], fnS, wk, by rw [hrs]; exact own, rfl⟩) eI.w fun GJ HJ eJ => ?_
            exact ⟨_, GJ, rfl, eI.trans WH eJ⟩
          · rintro σ' HI ⟨o13, GI, rfl, eI⟩
            have dvI := dvH.mono eI.sub
            refine tt_ne (K := K) (p := p) (l := l) (G := GI) (x := kn) (y := kn) (k1 rfl dvI) (td_is rfl (.str kn)) GI HI _ eI.w (Same.refl _) fun GJ HJ eJ => ?_
            rw [decide_eq_true rfl]
            refine if_no rfl ?_
            refine tt_ne (K := K) (p := p) (l := l) (G := GJ) (tx_repr (told rfl (dvI.mono eJ.sub)) okD) (tx_repr (td_is rfl ((da9H.mono eI.sub).mono eJ.sub)) okD) GJ HJ _ eJ.w (Same.refl _) fun GL HL eL => ?_
            rw [decide_eq_true rfl]
            exact if_no rfl ⟨_, _, _, _, _, _, _, _, _, _, _, _, rfl, GL, eL.w⟩
end
end L2.Hx

/-! The end: the row from the promise of its def. -/
namespace L2.Hx
open PySem PySem.Spec PyProof.Rows
section
variable {P : Program} {w : World} {K : PySem.W.Frag} {mg mb : Str → Option Value} {k : Nat} {f a : Addr} {fd : FuncData} {x : Str} {sp : Sp} {t0 : Shared} {us0 : List Value} {ns : List Int}
/-- what stands ahead of the call of the def -/
structure Ahead (K : PySem.W.Frag) (mg mb : Str → Option Value) (t0 : Shared) (a : Addr) (us0 : List Value) (ns : List Int) : Prop where
  kin : K.In t0.heap
  nsG : t0.heap.Ns mainGlobals mg
  nsB : t0.heap.Ns builtinsNs mb
  bb : ∀ y : Str, y ≠ "__name__" → mb y = bootBuiltins y
  lim : t0.heap.NoLimit
  gens : t0.gens = #[]
  obj : t0.heap.get? a = some { cls := .type "list", data := .seq us0.toArray }
  are : IntsAre us0 ns
  len : ns.length ≤ sizeLine
/-- what stands behind it -/
abbrev Done (t0 : Shared) : Result → Shared → Prop := fun r z => r = .ok (.ret (.bool true)) ∧ OldK t0.heap z.heap ∧ z.os = t0.os ∧ AllBare z.gens
/-- from a heap in which nothing but the script may be tracked -/
theorem Ahead.from_ {H : Hp} (Z : Ahead K mg mb t0 a us0 ns) (room : Room k callerA) (F : ∀ base : Heap, K.In base → base.Ns mainGlobals mg → FnG P w K mg base CX0 k f fd [x] sp) (bind : ∀ (s : Shared) (u : Value), BindsTo s fd ⟨[u], []⟩ [(x, u)])
    (hO : Only H) (prom : sp [.ref a] H (fun v _ => v = .bl true) fun _ _ _ => False) (ok0 : HOk P w H t0.heap) (alone : ∀ b, H b ≠ none → b = a) (notK : H a ≠ none → K.lookup a = none) :
    codeAny (model P w) callerA (.call (.ref f) ⟨[.ref a], []⟩) (Done t0) t0 := by
  have free : ∀ {b : Addr} {o : Obj} {es : Array DictEntry} {n : Nat}, t0.heap.get? b = some o → o.data = .dict es n → H b = none := fun {b o es n} e d => by
    rcases hO b with q | ⟨o2, xs, q⟩
    · exact q
    · have ea := alone b (by rw [q]; exact Option.some_ne_none _)
      rw [ea, Z.obj] at e
      cases e
      cases d
  have ns1 : ∀ {b : Addr} {m : Str → Option Value}, t0.heap.Ns b m → (hidT t0.heap H).Ns b m := fun {b m} z => by
    obtain ⟨o, es, n, e, d, r⟩ := z
    exact ⟨o, es, n, hidT_get e (free e d), d, r⟩
  have kin1 : K.In (hidT t0.heap H) := fun b o e => by
    refine hidT_get (Z.kin b o e) ?_
    rcases hO b with q | ⟨o2, xs, q⟩
    · exact q
    · have nn : H b ≠ none := by
        rw [q]
        exact Option.some_ne_none _
      have ea := alone b nn
      rw [ea] at nn e
      rw [notK nn] at e
      cases e
  have lim1 : (hidT t0.heap H).NoLimit := by
    obtain ⟨m, z1, z2⟩ := Z.lim
    exact ⟨m, ns1 z1, z2⟩
  have env : Env0 P w K mg (hidT t0.heap H) callerA [] t0 H :=
    ⟨rfl, ⟨kin1, ns1 Z.nsG, ⟨mb, ns1 Z.nsB, Z.bb⟩, lim1⟩, fun b o e => of_hidT e, Nat.le_of_eq (hidT_size _ _), trivial, fun b z => absurd (show b ∈ ([] : List Addr) from z) List.not_mem_nil, ok0, .of_eq Z.gens⟩
  refine codeAny_mono ((F _ kin1 (ns1 Z.nsG)).go callerA [] t0 H ⟨[.ref a], []⟩ [.ref a] [.ref a] _ _ rfl room env (bind t0 (.ref a)) (.cons rfl .nil) prom) fun r z h => ?_
  match r, h with
  | .ok (.ret u), h =>
    obtain ⟨v, H1, e1, e2, e3, e4, e5, e6⟩ := h
    have ev : v = .bl true := e6
    rw [ev] at e5
    have eu : u = Value.bool true := e5
    rw [eu]
    refine ⟨rfl, OldK.of_keep fun b o e => ?_, e1, e2⟩
    rcases hO b with q | ⟨o2, xs, q⟩
    · exact e3.keep b o e q (fun m => absurd (show b ∈ ([] : List Addr) from m) List.not_mem_nil) (by simp)
    · have q1 := e3.frzs b o2 _ q
      have g0 := (ok0 b _ q).1
      have g1 := (e4 b _ q1).1
      rw [e] at g0
      cases g0
      exact g1
theorem Ahead.call (Z : Ahead K mg mb t0 a us0 ns) (room : Room k callerA) (F : ∀ base : Heap, K.In base → base.Ns mainGlobals mg → FnG P w K mg base CX0 k f fd [x] sp) (bind : ∀ (s : Shared) (u : Value), BindsTo s fd ⟨[u], []⟩ [(x, u)])
    (prom : ∀ H : Hp, SqL K H a (ns.map V.int) → sp [.ref a] H (fun v _ => v = .bl true) fun _ _ _ => False) : codeAny (model P w) callerA (.call (.ref f) ⟨[.ref a], []⟩) (Done t0) t0 := by
  have vals := vals_ints Z.are
  have lens := Z.are.length
  cases own : K.lookup a with
  | some o =>
    have eo := Z.kin a o own
    rw [Z.obj] at eo
    cases eo
    refine Z.from_ (H := fun _ => none) room F bind (fun _ => .inl rfl) (prom _ (.inr ⟨_, us0.toArray, _, own, rfl, rfl, rfl, ?_, vals⟩)) (fun b u q => nomatch q) (fun b q => absurd rfl q) (fun q => absurd rfl q)
    rw [List.size_toArray, lens]
    exact Z.len
  | none =>
    refine Z.from_ (H := fun b => if b = a then some (.frz { cls := .type "list", data := .seq us0.toArray } (.lst (ns.map V.int))) else none) room F bind (fun b => ?_) (prom _ (.inl (.inr ⟨_, if_pos rfl⟩))) (fun b u q => ?_) (fun b q => ?_) (fun _ => own)
    · by_cases e : b = a
      · exact .inr ⟨_, _, if_pos e⟩
      · exact .inl (if_neg e)
    · by_cases e : b = a
      · have q1 := (if_pos e).symm.trans q
        cases q1
        rw [e]
        exact ⟨Z.obj, by rw [List.length_map]; exact Z.len, us0, _, vals, Z.obj⟩
      · have q1 := (if_neg e).symm.trans q
        cases q1
    · by_cases e : b = a
      · exact e
      · exact absurd (if_neg e) q
end
/-- the row's walk -/
theorem walkG {l : PySem.W.OpenLaw} {n k : Nat} {q : Program} {loose : List Str} {XP : (Str → Option Value) → Heap → Prop} {YP : World → Heap → Prop} {d : DefRec} {K : Params → PySem.W.Frag} {sp : PySem.W.Frag → Sp} {x : Str}
    (hn : l.most = some n) (hz : n ≤ sizeLine) (nodef : d.params.defaults = []) (room : Room k callerA) (hY : ∀ (w : World) (h : Heap), YP w h → (K w.params).In h)
    (F : ∀ (w : World) (mg : Str → Option Value) (f : Addr) (h : Heap), (K w.params).In h → h.Ns mainGlobals mg → mg d.name = some (.ref f) →
      ∃ fd : FuncData, (∀ (s : Shared) (u : Value), BindsTo s fd ⟨[u], []⟩ [(x, u)]) ∧ ∀ base : Heap, FnG l.prog w (K w.params) mg base CX0 k f fd [x] (sp (K w.params)))
    (prom : ∀ (K : PySem.W.Frag) (H : Hp) (a : Addr) (ns : List Int), ns.length ≤ n → SqL K H a (ns.map V.int) → sp K [.ref a] H (fun v _ => v = .bl true) fun _ _ _ => False) :
    PySem.W.WalkO q loose XP YP l.row.toRowW d [] (fun f vs => PySem.call f vs) := by
  refine Att.attach_call hn nodef fun w s0 t0 mg mb f o pm cd doc a us0 ns G Y _ _ _ here obj are len gens => ?_
  have kin := hY w _ Y
  obtain ⟨fd, b, FF⟩ := F w mg f _ kin G.T.g here
  have Z : Ahead (K w.params) mg mb t0 a us0 ns := ⟨kin, G.T.g, G.T.b, G.T.builtins, G.T.nolimit, gens, obj, are, Nat.le_trans len hz⟩
  exact Z.call room (fun base _ _ => FF base) b fun H hS => prom _ H a ns len hS
/-- a def of the top, where it stands -/
theorem src_of {K : PySem.W.Frag} {mg : Str → Option Value} {h : Heap} {x : Str} {st : Stmt} {ps : List Str} {f : Addr} {oc kV doc pm cdv ct : Value} {od an : Option Addr} {osl : Array (Option Value)} (X : K.In h) (G : h.Ns mainGlobals mg)
    (e1 : PySem.W.nsIn K mainGlobals x = some (some (.ref f))) (e2 : K.lookup f = some ⟨oc, od, .func (PySem.W.fnOf x x (defArgs st) (defBody st) (defScope st) .none kV doc pm an cdv ct), osl⟩) (e3 : PySem.W.codeIn K cdv x = true) (e4 : PySem.W.keepIn K (.ref f) = true)
    (hb : ∀ (kV doc pm : Value) (an : Option Addr) (cdv ct : Value) (us : List Value), us.length = ps.length → bindArgs (PySem.W.fnOf x x (defArgs st) (defBody st) (defScope st) .none kV doc pm an cdv ct) ⟨us, []⟩ = pure (ps.zip us)) : ∃ f fd, Src K mg x st ps f fd :=
  ⟨f, _, fun_mk e2 e3 e4, PySem.W.mg_of X G e1, (fun_mk e2 e3 e4).binds hb⟩
/-- a tuple of texts of the top -/
theorem tup_of {K : PySem.W.Frag} {mg : Str → Option Value} {h : Heap} {x : Str} {a : Addr} {ws : List Str} {o : Obj} {its : Array Value} {n : Nat} (X : K.In h) (G : h.Ns mainGlobals mg) (e1 : PySem.W.nsIn K mainGlobals x = some (some (.ref a))) (e2 : K.lookup a = some o)
    (e3 : o.cls = .type "tuple" ∧ o.data = .seq its n ∧ its.size ≤ sizeLine ∧ Vals (ws.map V.str) its.toList) : ∃ a, mg x = some (.ref a) ∧ ∀ H, SqT K H a (ws.map V.str) :=
  ⟨a, PySem.W.mg_of X G e1, fun H => .inr ⟨o, its, n, e2, e3.1, e3.2.1, e3.2.2.1, e3.2.2.2⟩⟩
theorem da_walk {l : PySem.W.OpenLaw} {q : Program} {loose : List Str} {XP : (Str → Option Value) → Heap → Prop} {YP : World → Heap → Prop} {d : DefRec} {K : Params → PySem.W.Frag} (hn : l.most = some 63) (nodef : d.params.defaults = []) (nm : d.name = "law")
    (hY : ∀ (w : World) (h : Heap), YP w h → (K w.params).In h) (F : ∀ (w : World) (mg : Str → Option Value) (h : Heap), (K w.params).In h → h.Ns mainGlobals mg → Txt (K w.params) mg) : PySem.W.WalkO q loose XP YP l.row.toRowW d [] (fun f vs => PySem.call f vs) :=
  walkG (n := 63) (k := 14) (x := "script") (sp := spLaw) hn (by decide) nodef ⟨rfl, by decide, by decide⟩ hY (fun w mg f h kin G here => by
    have T := F w mg h kin G
    obtain ⟨f0, fd0, S0⟩ := T.d_law
    have e := S0.at_.symm.trans (nm ▸ here)
    cases e
    refine ⟨fd0, fun s u => ?_, fun base => ?_⟩
    · obtain ⟨oc, od, kV, doc, pm, an, cdv, ct, osl, rfl, _⟩ := S0.fn.ex
      exact .of_eq rfl
    · obtain ⟨f1, fd1, R, S1⟩ := D_law (P := l.prog) (w := w) (base := base) T
      have e1 := S1.at_.symm.trans S0.at_
      cases e1
      have e2 : fd1 = fd0 := by
        obtain ⟨oc, od, kV, doc, pm, an, cdv, ct, osl, rfl, lk, _⟩ := S0.fn.ex
        obtain ⟨oc', od', kV', doc', pm', an', cdv', ct', osl', rfl, lk', _⟩ := S1.fn.ex
        rw [lk] at lk'
        cases lk'
        rfl
      rw [← e2]
      exact R) fun K H a ns hl hS => ⟨a, ns, rfl, hS, hl, fun _ => rfl⟩
theorem kit_ref {K : PySem.W.Frag} {C CH : Addr} (h1 : PySem.W.hasDictIn K CH = true) (h2 : PySem.W.typeIn K (.ref CH) = some (.type "type")) (h3 : PySem.W.subIn K (.ref C) (.ref CH) = some true) : PySem.W.kitOne K (.ref C) (.ref CH) = some true := by
  obtain ⟨cd, hc, _⟩ := PySem.W.any_some h1
  unfold PySem.W.kitOne
  split
  · rfl
  · show (if ((PySem.W.clsIn K CH).isSome && PySem.W.typeIn K (.ref CH) == some (.type "type")) = true then PySem.W.subIn K (.ref C) (.ref CH) else none) = some true
    have e : ((PySem.W.clsIn K CH).isSome && PySem.W.typeIn K (.ref CH) == some (.type "type")) = true := by rw [hc, h2] <;> rfl
    rw [if_pos e]
    exact h3
/-- the own errors of the text -/
theorem exc_of {K : PySem.W.Frag} {mg : Str → Option Value} {h : Heap} {C CH : Addr} (X : K.In h) (G : h.Ns mainGlobals mg) (a1 : PySem.W.nsIn K mainGlobals "Unfit" = some (some (.ref C))) (a2 : PySem.W.nsIn K mainGlobals "HeldError" = some (some (.ref CH)))
    (x1 : PySem.W.excIn K C [.type "ValueError", .type "Exception", .type "BaseException", .type "object"] "ValueError.__new__" = true) (x2 : PySem.W.keepIn K (.ref C) = true) (x3 : PySem.W.subIn K (.ref C) (.type "BaseException") = some true) (x4 : PySem.W.typeIn K (.ref C) = some (.type "type")) (x5 : PySem.W.hasDictIn K C = true) (x6 : PySem.W.subIn K (.ref C) (.ref C) = some true)
    (y1 : PySem.W.findIn K (.ref C) "__getattribute__" = some (some (.builtin "BaseException.__getattribute__"))) (y2 : PySem.W.findIn K (.ref C) "__getattr__" = some none) (y3 : PySem.W.findIn K (.ref C) "__class__" = some (some (.builtin "object.__class__")))
    (y4 : PySem.W.specialIn K (.builtin "object.__class__") "__get__" = some (some (.builtin "getset_descriptor.__get__"))) (y5 : PySem.W.takesIn K (.builtin "object.__class__") = some true) (y6 : PySem.W.mroIn K C (.type "object") = some true)
    (z1 : PySem.W.hasDictIn K CH = true) (z2 : PySem.W.typeIn K (.ref CH) = some (.type "type")) (z3 : PySem.W.subIn K (.ref C) (.ref CH) = some true) :
    ∃ C CH, OwnExc K mg "Unfit" C ∧ mg "HeldError" = some (.ref CH) ∧ PySem.W.kitOne K (.ref C) (.ref CH) = some true :=
  ⟨C, CH, ⟨PySem.W.mg_of X G a1, x1, x2, x3, x4, x5, x6, ⟨y1, y2, x3, x5, y3, y4, y5, y6⟩⟩, PySem.W.mg_of X G a2, kit_ref z1 z2 z3⟩
end L2.Hx

open PySem PySem.W PyProof.Rows in
set_option maxRecDepth 100000 in
set_option maxHeartbeats 0 in
theorem PySem.Challenge.cw_heldapart_k22_whole_names_and_ways_holds : PySem.Challenge.rw_heldapart_k22_whole_names_and_ways.Holds := by
  w_on; o_law; k_head; (case hw => w_witness2)
  k_fill
  refine L2.Hx.da_walk (l := PySem.Challenge.rw_heldapart_k22_whole_names_and_ways) rfl rfl rfl (fun w h Y => PySem.W.kIn_of Y) ?F
  case F =>
    intro w mg h KX G
    have b_ValueError : mg "ValueError" = none := by
      refine PySem.W.mg_none_of KX G ?_
      k_is
    have b_enumerate : mg "enumerate" = none := by
      refine PySem.W.mg_none_of KX G ?_
      k_is
    have b_int : mg "int" = none := by
      refine PySem.W.mg_none_of KX G ?_
      k_is
    have b_isinstance : mg "isinstance" = none := by
      refine PySem.W.mg_none_of KX G ?_
      k_is
    have b_len : mg "len" = none := by
      refine PySem.W.mg_none_of KX G ?_
      k_is
    have b_list : mg "list" = none := by
      refine PySem.W.mg_none_of KX G ?_
      k_is
    have b_min : mg "min" = none := by
      refine PySem.W.mg_none_of KX G ?_
      k_is
    have b_range : mg "range" = none := by
      refine PySem.W.mg_none_of KX G ?_
      k_is
    have b_repr : mg "repr" = none := by
      refine PySem.W.mg_none_of KX G ?_
      k_is
    have b_sorted : mg "sorted" = none := by
      refine PySem.W.mg_none_of KX G ?_
      k_is
    have b_sum : mg "sum" = none := by
      refine PySem.W.mg_none_of KX G ?_
      k_is
    have b_tuple : mg "tuple" = none := by
      refine PySem.W.mg_none_of KX G ?_
      k_is
    have b_zip : mg "zip" = none := by
      refine PySem.W.mg_none_of KX G ?_
      k_is
    have e_Unfit : ∃ C CH, L2.Hx.OwnExc (L2.KOf KX) mg "Unfit" C ∧ mg "HeldError" = some (.ref CH) ∧ PySem.W.kitOne (L2.KOf KX) (.ref C) (.ref CH) = some true := by
      dsimp only [L2.KOf]
      refine' L2.Hx.exc_of KX G ?a1 ?a2 ?x1 ?x2 ?x3 ?x4 ?x5 ?x6 ?y1 ?y2 ?y3 ?y4 ?y5 ?y6 ?z1 ?z2 ?z3
      (case a1 => k_is)
      (case a2 => k_is)
      (case x1 => k_exc)
      (case x2 => k_is)
      (case x3 => k_is)
      (case x4 => k_is)
      (case x5 => k_is)
      (case x6 => first | rfl | k_is)
      (case y1 => k_is)
      (case y2 => k_is)
      (case y3 => k_is)
      (case y4 => k_is)
      (case y5 => k_is)
      (case y6 => k_is)
      (case z1 => k_is)
      (case z2 => k_is)
      (case z3 => k_is)
    have d_inner_of : ∃ f fd, L2.Hx.Src (L2.KOf KX) mg "inner_of" L2.Hx.s_inner_of ["statement"] f fd := by
      dsimp only [L2.KOf]
      refine' L2.Hx.src_of KX G ?e1_14 ?e2_14 ?e3_14 ?e4_14 (fun _ _ _ _ _ _ us hl => match us, hl with | [_], _ => rfl)
      (case e1_14 => k_is)
      (case e2_14 => k_is)
      (case e3_14 => k_is)
      (case e4_14 => k_is)
    have d_walked : ∃ f fd, L2.Hx.Src (L2.KOf KX) mg "walked" L2.Hx.s_walked ["statements", "above"] f fd := by
      dsimp only [L2.KOf]
      refine' L2.Hx.src_of KX G ?e1_15 ?e2_15 ?e3_15 ?e4_15 (fun _ _ _ _ _ _ us hl => match us, hl with | [_, _], _ => rfl)
      (case e1_15 => k_is)
      (case e2_15 => k_is)
      (case e3_15 => k_is)
      (case e4_15 => k_is)
    have d_names_of : ∃ f fd, L2.Hx.Src (L2.KOf KX) mg "names_of" L2.Hx.s_names_of ["function"] f fd := by
      dsimp only [L2.KOf]
      refine' L2.Hx.src_of KX G ?e1_16 ?e2_16 ?e3_16 ?e4_16 (fun _ _ _ _ _ _ us hl => match us, hl with | [_], _ => rfl)
      (case e1_16 => k_is)
      (case e2_16 => k_is)
      (case e3_16 => k_is)
      (case e4_16 => k_is)
    have d_ways_of : ∃ f fd, L2.Hx.Src (L2.KOf KX) mg "ways_of" L2.Hx.s_ways_of ["function"] f fd := by
      dsimp only [L2.KOf]
      refine' L2.Hx.src_of KX G ?e1_17 ?e2_17 ?e3_17 ?e4_17 (fun _ _ _ _ _ _ us hl => match us, hl with | [_], _ => rfl)
      (case e1_17 => k_is)
      (case e2_17 => k_is)
      (case e3_17 => k_is)
      (case e4_17 => k_is)
    have d_statement_at : ∃ f fd, L2.Hx.Src (L2.KOf KX) mg "statement_at" L2.Hx.s_statement_at ["function", "way"] f fd := by
      dsimp only [L2.KOf]
      refine' L2.Hx.src_of KX G ?e1_18 ?e2_18 ?e3_18 ?e4_18 (fun _ _ _ _ _ _ us hl => match us, hl with | [_, _], _ => rfl)
      (case e1_18 => k_is)
      (case e2_18 => k_is)
      (case e3_18 => k_is)
      (case e4_18 => k_is)
    have d_l_stock : ∃ f fd, L2.Hx.Src (L2.KOf KX) mg "_law_stock" L2.Hx.s_l_stock ["script"] f fd := by
      dsimp only [L2.KOf]
      refine' L2.Hx.src_of KX G ?e1_19 ?e2_19 ?e3_19 ?e4_19 (fun _ _ _ _ _ _ us hl => match us, hl with | [_], _ => rfl)
      (case e1_19 => k_is)
      (case e2_19 => k_is)
      (case e3_19 => k_is)
      (case e4_19 => k_is)
    have d_l_draw : ∃ f fd, L2.Hx.Src (L2.KOf KX) mg "_law_draw" L2.Hx.s_l_draw ["stock", "size"] f fd := by
      dsimp only [L2.KOf]
      refine' L2.Hx.src_of KX G ?e1_20 ?e2_20 ?e3_20 ?e4_20 (fun _ _ _ _ _ _ us hl => match us, hl with | [_, _], _ => rfl)
      (case e1_20 => k_is)
      (case e2_20 => k_is)
      (case e3_20 => k_is)
      (case e4_20 => k_is)
    have d_l_pick : ∃ f fd, L2.Hx.Src (L2.KOf KX) mg "_law_pick" L2.Hx.s_l_pick ["stock", "row"] f fd := by
      dsimp only [L2.KOf]
      refine' L2.Hx.src_of KX G ?e1_21 ?e2_21 ?e3_21 ?e4_21 (fun _ _ _ _ _ _ us hl => match us, hl with | [_, _], _ => rfl)
      (case e1_21 => k_is)
      (case e2_21 => k_is)
      (case e3_21 => k_is)
      (case e4_21 => k_is)
    have d_l_shuffled : ∃ f fd, L2.Hx.Src (L2.KOf KX) mg "_law_shuffled" L2.Hx.s_l_shuffled ["stock", "row"] f fd := by
      dsimp only [L2.KOf]
      refine' L2.Hx.src_of KX G ?e1_22 ?e2_22 ?e3_22 ?e4_22 (fun _ _ _ _ _ _ us hl => match us, hl with | [_, _], _ => rfl)
      (case e1_22 => k_is)
      (case e2_22 => k_is)
      (case e3_22 => k_is)
      (case e4_22 => k_is)
    have d_l_clause : ∃ f fd, L2.Hx.Src (L2.KOf KX) mg "_law_clause" L2.Hx.s_l_clause ["stock", "names", "many"] f fd := by
      dsimp only [L2.KOf]
      refine' L2.Hx.src_of KX G ?e1_23 ?e2_23 ?e3_23 ?e4_23 (fun _ _ _ _ _ _ us hl => match us, hl with | [_, _, _], _ => rfl)
      (case e1_23 => k_is)
      (case e2_23 => k_is)
      (case e3_23 => k_is)
      (case e4_23 => k_is)
    have d_l_saying : ∃ f fd, L2.Hx.Src (L2.KOf KX) mg "_law_saying" L2.Hx.s_l_saying ["stock", "names", "many"] f fd := by
      dsimp only [L2.KOf]
      refine' L2.Hx.src_of KX G ?e1_24 ?e2_24 ?e3_24 ?e4_24 (fun _ _ _ _ _ _ us hl => match us, hl with | [_, _, _], _ => rfl)
      (case e1_24 => k_is)
      (case e2_24 => k_is)
      (case e3_24 => k_is)
      (case e4_24 => k_is)
    have d_l_shape : ∃ f fd, L2.Hx.Src (L2.KOf KX) mg "_law_shape" L2.Hx.s_l_shape ["stock", "most"] f fd := by
      dsimp only [L2.KOf]
      refine' L2.Hx.src_of KX G ?e1_25 ?e2_25 ?e3_25 ?e4_25 (fun _ _ _ _ _ _ us hl => match us, hl with | [_, _], _ => rfl)
      (case e1_25 => k_is)
      (case e2_25 => k_is)
      (case e3_25 => k_is)
      (case e4_25 => k_is)
    have d_l_values : ∃ f fd, L2.Hx.Src (L2.KOf KX) mg "_law_values" L2.Hx.s_l_values ["shape"] f fd := by
      dsimp only [L2.KOf]
      refine' L2.Hx.src_of KX G ?e1_26 ?e2_26 ?e3_26 ?e4_26 (fun _ _ _ _ _ _ us hl => match us, hl with | [_], _ => rfl)
      (case e1_26 => k_is)
      (case e2_26 => k_is)
      (case e3_26 => k_is)
      (case e4_26 => k_is)
    have d_l_test : ∃ f fd, L2.Hx.Src (L2.KOf KX) mg "_law_test" L2.Hx.s_l_test ["stock", "shape"] f fd := by
      dsimp only [L2.KOf]
      refine' L2.Hx.src_of KX G ?e1_27 ?e2_27 ?e3_27 ?e4_27 (fun _ _ _ _ _ _ us hl => match us, hl with | [_, _], _ => rfl)
      (case e1_27 => k_is)
      (case e2_27 => k_is)
      (case e3_27 => k_is)
      (case e4_27 => k_is)
    have d_l_simple : ∃ f fd, L2.Hx.Src (L2.KOf KX) mg "_law_simple" L2.Hx.s_l_simple ["stock", "shape", "others"] f fd := by
      dsimp only [L2.KOf]
      refine' L2.Hx.src_of KX G ?e1_28 ?e2_28 ?e3_28 ?e4_28 (fun _ _ _ _ _ _ us hl => match us, hl with | [_, _, _], _ => rfl)
      (case e1_28 => k_is)
      (case e2_28 => k_is)
      (case e3_28 => k_is)
      (case e4_28 => k_is)
    have d_l_statement : ∃ f fd, L2.Hx.Src (L2.KOf KX) mg "_law_statement" L2.Hx.s_l_statement ["stock", "shape", "others", "deep"] f fd := by
      dsimp only [L2.KOf]
      refine' L2.Hx.src_of KX G ?e1_29 ?e2_29 ?e3_29 ?e4_29 (fun _ _ _ _ _ _ us hl => match us, hl with | [_, _, _, _], _ => rfl)
      (case e1_29 => k_is)
      (case e2_29 => k_is)
      (case e3_29 => k_is)
      (case e4_29 => k_is)
    have d_l_statements : ∃ f fd, L2.Hx.Src (L2.KOf KX) mg "_law_statements" L2.Hx.s_l_statements ["stock", "shape", "others", "deep", "many"] f fd := by
      dsimp only [L2.KOf]
      refine' L2.Hx.src_of KX G ?e1_30 ?e2_30 ?e3_30 ?e4_30 (fun _ _ _ _ _ _ us hl => match us, hl with | [_, _, _, _, _], _ => rfl)
      (case e1_30 => k_is)
      (case e2_30 => k_is)
      (case e3_30 => k_is)
      (case e4_30 => k_is)
    have d_l_size : ∃ f fd, L2.Hx.Src (L2.KOf KX) mg "_law_size" L2.Hx.s_l_size ["statements"] f fd := by
      dsimp only [L2.KOf]
      refine' L2.Hx.src_of KX G ?e1_31 ?e2_31 ?e3_31 ?e4_31 (fun _ _ _ _ _ _ us hl => match us, hl with | [_], _ => rfl)
      (case e1_31 => k_is)
      (case e2_31 => k_is)
      (case e3_31 => k_is)
      (case e4_31 => k_is)
    have d_l_function : ∃ f fd, L2.Hx.Src (L2.KOf KX) mg "_law_function" L2.Hx.s_l_function ["stock", "name", "shape", "others", "many"] f fd := by
      dsimp only [L2.KOf]
      refine' L2.Hx.src_of KX G ?e1_32 ?e2_32 ?e3_32 ?e4_32 (fun _ _ _ _ _ _ us hl => match us, hl with | [_, _, _, _, _], _ => rfl)
      (case e1_32 => k_is)
      (case e2_32 => k_is)
      (case e3_32 => k_is)
      (case e4_32 => k_is)
    have d_l_inner : ∃ f fd, L2.Hx.Src (L2.KOf KX) mg "_law_inner" L2.Hx.s_l_inner ["statement"] f fd := by
      dsimp only [L2.KOf]
      refine' L2.Hx.src_of KX G ?e1_33 ?e2_33 ?e3_33 ?e4_33 (fun _ _ _ _ _ _ us hl => match us, hl with | [_], _ => rfl)
      (case e1_33 => k_is)
      (case e2_33 => k_is)
      (case e3_33 => k_is)
      (case e4_33 => k_is)
    have d_l_all_ways : ∃ f fd, L2.Hx.Src (L2.KOf KX) mg "_law_all_ways" L2.Hx.s_l_all_ways ["statements", "way"] f fd := by
      dsimp only [L2.KOf]
      refine' L2.Hx.src_of KX G ?e1_34 ?e2_34 ?e3_34 ?e4_34 (fun _ _ _ _ _ _ us hl => match us, hl with | [_, _], _ => rfl)
      (case e1_34 => k_is)
      (case e2_34 => k_is)
      (case e3_34 => k_is)
      (case e4_34 => k_is)
    have d_l_is_told : ∃ f fd, L2.Hx.Src (L2.KOf KX) mg "_law_is_told" L2.Hx.s_l_is_told ["function", "way", "rows"] f fd := by
      dsimp only [L2.KOf]
      refine' L2.Hx.src_of KX G ?e1_35 ?e2_35 ?e3_35 ?e4_35 (fun _ _ _ _ _ _ us hl => match us, hl with | [_, _, _], _ => rfl)
      (case e1_35 => k_is)
      (case e2_35 => k_is)
      (case e3_35 => k_is)
      (case e4_35 => k_is)
    have d_l_near : ∃ f fd, L2.Hx.Src (L2.KOf KX) mg "_law_near" L2.Hx.s_l_near ["stock", "way"] f fd := by
      dsimp only [L2.KOf]
      refine' L2.Hx.src_of KX G ?e1_36 ?e2_36 ?e3_36 ?e4_36 (fun _ _ _ _ _ _ us hl => match us, hl with | [_, _], _ => rfl)
      (case e1_36 => k_is)
      (case e2_36 => k_is)
      (case e3_36 => k_is)
      (case e4_36 => k_is)
    have d_l_within_four : ∃ f fd, L2.Hx.Src (L2.KOf KX) mg "_law_within_four" L2.Hx.s_l_within_four ["stock"] f fd := by
      dsimp only [L2.KOf]
      refine' L2.Hx.src_of KX G ?e1_37 ?e2_37 ?e3_37 ?e4_37 (fun _ _ _ _ _ _ us hl => match us, hl with | [_], _ => rfl)
      (case e1_37 => k_is)
      (case e2_37 => k_is)
      (case e3_37 => k_is)
      (case e4_37 => k_is)
    have d_law : ∃ f fd, L2.Hx.Src (L2.KOf KX) mg "law" L2.Hx.s_law ["script"] f fd := by
      dsimp only [L2.KOf]
      refine' L2.Hx.src_of KX G ?e1_38 ?e2_38 ?e3_38 ?e4_38 (fun _ _ _ _ _ _ us hl => match us, hl with | [_], _ => rfl)
      (case e1_38 => k_is)
      (case e2_38 => k_is)
      (case e3_38 => k_is)
      (case e4_38 => k_is)
    exact ⟨b_ValueError, b_enumerate, b_int, b_isinstance, b_len, b_list, b_min, b_range, b_repr, b_sorted, b_sum, b_tuple, b_zip, e_Unfit, d_inner_of, d_walked, d_names_of, d_ways_of, d_statement_at, d_l_stock, d_l_draw, d_l_pick, d_l_shuffled, d_l_clause, d_l_saying, d_l_shape, d_l_values, d_l_test, d_l_simple, d_l_statement, d_l_statements, d_l_size, d_l_function, d_l_inner, d_l_all_ways, d_l_is_told, d_l_near, d_l_within_four, d_law⟩

